/- Texts of the layers below, joined: GcZ GcZA GcZB GcZC GcZD GcZE GcZF CoN GcZG GtA GtB CoS RgA CoD CoQ RgN CoT CoV CoW CoX ArgR Nums RgB RgC RgD StepR MtA GtC MtB. -/
import Derived.Test.YthmhehehomieiaaGreatJoinD
import Derived.Laws.AppendOwn
import Derived.Maps.AppendAt
import Derived.Deep.AppendLies
import Derived.Deep.QuietTactic
import Derived.BigQuiet
import Derived.BigRegion
import Derived.IntWalk
import Derived.Deep.Slices
import Derived.Deep.Fields
import Derived.ChangeSame
import Derived.Deep.DeepCutAuto
import Derived.Deep.CutBlock
import Derived.StillTailTactics

/- Clear, Copy and Write, whatever stands in a heap. -/
namespace Go.Proofs.YthmhehehomieiaaGreat
namespace Gc
open Go.RowKit

section
variable {A : Hp} {s : Co} {w : World} {b : Nat} {S : Nat → Prop}

/-- What an entry may count: one object and its words. -/
def Adds (s s' : Co) : Prop := s'.d.mi = s.d.mi ∧ s.d.al ≤ s'.d.al ∧ s'.d.al ≤ s.d.al + 1 ∧ s.d.wd ≤ s'.d.wd ∧ s'.d.wd ≤ s.d.wd + 66
theorem Adds.of {s s' : Co} (h : nums s' = nums s) : Adds s s' := by
  unfold nums at h
  injection h with h1 h
  injection h with h2 h3
  exact ⟨h1, by omega, by omega, by omega, by omega⟩

/-- An entry. -/
inductive Op
  | make (a p q : Int)
  | get (d h n : Int)
  | set (h n f : Int)
  | write (h n v : Int)
  | clear (h : Int)
  | copy (h f : Int)

/-- A reference q is written into the object o at x, as its n-th; x is noted, if it must be. -/
inductive SetD (s : Co) (A : Hp) (x : Int) (o : Gc.Ob) (n : Nat) (q : Int) : Co → Hp → Prop
  | plain : x ∉ A.O ∨ q ∉ A.F → SetD s A x o n q (s.wrote (s.ws.set (x.toNat + 2 + n) q)) (A.put x { o with rs := o.rs.set n q })
  | note {s' : Co} {B : Hp} : x ∈ A.O → q ∈ A.F → NoteD (s.wrote (s.ws.set (x.toNat + 2 + n) q)) (A.put x { o with rs := o.rs.set n q }) x s' B → SetD s A x o n q s' B

/-- A new object. -/
def _root_.Go.Proofs.YthmhehehomieiaaGreat.Co.newOb (s : Co) (p q : Nat) : Gc.Ob := ⟨0, s.par, false, false, s.next, List.replicate p 0, List.replicate q 0⟩

/-- What an entry comes to. -/
inductive Ent (s : Co) (A : Hp) : Op → Int → Co → Hp → Prop
  | clear3 {h : Int} : s.has h = false → Ent s A (.clear h) 3 s A
  | clear {h : Int} : s.has h = true → Ent s A (.clear h) 0 (s.put (s.hs.set h.toNat 0)) { A with hs := s.hs.set h.toNat 0 }
  | copy3 {h f : Int} : s.has f = false ∨ s.has h = false → Ent s A (.copy h f) 3 s A
  | copy {h f : Int} : s.has f = true → s.has h = true → Ent s A (.copy h f) 0 (s.put (s.hs.set h.toNat (s.at_ f))) { A with hs := s.hs.set h.toNat (s.at_ f) }
  | write3 {h n v : Int} : s.has h = false → Ent s A (.write h n v) 3 s A
  | write4 {h n v : Int} : s.has h = true → s.at_ h = 0 → Ent s A (.write h n v) 4 s A
  | write5 {h n v : Int} {o : Gc.Ob} : s.has h = true → A.ob (s.at_ h) = some o → scaB (o.n : Nat) o.rs.length n = false → Ent s A (.write h n v) 5 s A
  | write {h n v : Int} {o : Gc.Ob} : s.has h = true → A.ob (s.at_ h) = some o → scaB (o.n : Nat) o.rs.length n = true →
      Ent s A (.write h n v) 0 (s.wrote (s.ws.set ((s.at_ h).toNat + 2 + (o.rs.length + n.toNat)) v)) (A.put (s.at_ h) { o with ss := o.ss.set n.toNat v })
  | get3 {d h n : Int} : s.has h = false → Ent s A (.get d h n) 3 s A
  | get4 {d h n : Int} : s.has h = true → s.at_ h = 0 → Ent s A (.get d h n) 4 s A
  | getTo {d h n : Int} {o : Gc.Ob} : s.has h = true → A.ob (s.at_ h) = some o → s.has d = false → Ent s A (.get d h n) 3 s A
  | get5 {d h n : Int} {o : Gc.Ob} : s.has h = true → A.ob (s.at_ h) = some o → s.has d = true → refB (o.rs.length : Int) n = false → Ent s A (.get d h n) 5 s A
  | get {d h n : Int} {o : Gc.Ob} {q r : Int} {s2 : Co} {B : Hp} : s.has h = true → A.ob (s.at_ h) = some o → s.has d = true → refB (o.rs.length : Int) n = true → o.rs[n.toNat]? = some q → MoveD s A q s2 B r →
      Ent s A (.get d h n) 0 (s2.put (s2.hs.set d.toNat r)) { B with hs := s2.hs.set d.toNat r }
  | set3 {h n f : Int} : s.has h = false → Ent s A (.set h n f) 3 s A
  | set4 {h n f : Int} : s.has h = true → s.at_ h = 0 → Ent s A (.set h n f) 4 s A
  | setTo {h n f : Int} {o : Gc.Ob} : s.has h = true → A.ob (s.at_ h) = some o → s.has f = false → Ent s A (.set h n f) 3 s A
  | set5 {h n f : Int} {o : Gc.Ob} : s.has h = true → A.ob (s.at_ h) = some o → s.has f = true → refB (o.rs.length : Int) n = false → Ent s A (.set h n f) 5 s A
  | set {h n f : Int} {o : Gc.Ob} {s' : Co} {B : Hp} : s.has h = true → A.ob (s.at_ h) = some o → s.has f = true → refB (o.rs.length : Int) n = true → SetD s A (s.at_ h) o n.toNat (s.at_ f) s' B → Ent s A (.set h n f) 0 s' B
  | make3 {a p q : Int} : s.has a = false → Ent s A (.make a p q) 3 s A
  | make6 {a p q : Int} : s.has a = true → (p < 0 ∨ q < 0 ∨ s.cf.lg - q < p) → Ent s A (.make a p q) 6 s A
  | make7 {a p q : Int} : s.has a = true → 0 ≤ p → 0 ≤ q → p ≤ s.cf.lg - q → ¬ p + q + 2 ≤ s.cf.nu - s.yu - A.rest → Ent s A (.make a p q) 7 s A
  | make {a p q : Int} : s.has a = true → 0 ≤ p → 0 ≤ q → p ≤ s.cf.lg - q → p + q + 2 ≤ s.cf.nu - s.yu - A.rest →
      Ent s A (.make a p q) 0 (s.made a p q) { A.make s.next (s.newOb p.toNat q.toNat) with hs := s.hs.set a.toNat s.next }

/-- What comes of an entry that is none of a cycle. -/
structure ActQ (s : Co) (A : Hp) (op : Op) (E : Int) (s' : Co) (B : Hp) : Prop where
  cyc : Cyc s' B
  cf : s'.cf = s.cf
  mv : s'.mv = s.mv
  adds : Adds s s'
  ent : Ent s A op E s' B

/-- How an entry that is none of a cycle ends. -/
def ActC (w : World) (b : Nat) (S : Nat → Prop) (s : Co) (A : Hp) (op : Op) (e : Ending) (w' : World) : Prop :=
  ∃ s' B E, e = .returned (.int .i64 E) ∧ CoR w b S s' w' ∧ ActQ s A op E s' B

theorem ActC.same (c : Cyc s A) {w' : World} {op : Op} (r : CoR w b S s w') (E : Int) (en : Ent s A op E s A) : ActC w b S s A op (.returned (.int .i64 E)) w' := ⟨s, A, E, rfl, r, c, rfl, rfl, .of rfl, en⟩

/-- The handles hold something else. -/
theorem Cyc.hand (c : Cyc s A) {hs : List Int} (h : ∀ p ∈ hs, A.ok p ∧ p ∉ A.E) : Cyc (s.put hs) { A with hs := hs } :=
  { sim := { c.sim with laid := c.sim.laid.side rfl rfl rfl rfl, hs := rfl }
    inv := c.inv.hand fun p hp => (h p hp).1
    gx := c.gx, ph := c.ph, D := c.D, hnd := fun p hp => (h p hp).2, scan := c.scan, idle := c.idle }

theorem Cyc.held (c : Cyc s A) {p : Int} (h : p ∈ s.hs) : A.ok p ∧ p ∉ A.E := ⟨c.inv.hs p (by rw [c.sim.hs]; exact h), c.hnd p (by rw [c.sim.hs]; exact h)⟩
theorem Cyc.ok_zero : A.ok 0 := .inl rfl
theorem Cyc.set (c : Cyc s A) (h : Nat) {p : Int} (hp : A.ok p ∧ p ∉ A.E) : Cyc (s.put (s.hs.set h p)) { A with hs := s.hs.set h p } :=
  c.hand fun q hq => by
    rcases List.mem_or_eq_of_mem_set hq with e | rfl
    · exact c.held e
    · exact hp
theorem Cyc.zero (c : Cyc s A) : A.ok 0 ∧ (0 : Int) ∉ A.E := ⟨.inl rfl, fun e => by have := c.inv.pos 0 (.inr (.inl e)); omega⟩
theorem Cyc.at_ (c : Cyc s A) {h : Int} (e : s.has h = true) : A.ok (s.at_ h) ∧ s.at_ h ∉ A.E := by
  obtain ⟨i, rfl, hi, hx, _⟩ := Co.has_yes e
  exact c.held (List.mem_of_getElem? hx)

theorem clear_cyc (hC : Cr w b S s) (c : Cyc s A) (h : Int) : Calls Tryz.prog 44 #[ptr b, .int .i64 h] w (ActC w b S s A (.clear h)) := by
  cases e : s.has h
  · exact (clear_no h 3 (by decide) w (noH_no hC e)).mono fun _ w' ⟨he, hw⟩ => by subst hw; subst he; exact .same c hC.same 3 (.clear3 e)
  · exact (clear_yes hC e).mono fun _ w' ⟨he, r⟩ => by subst he; exact ⟨_, _, 0, rfl, r, c.set h.toNat c.zero, rfl, rfl, .of rfl, .clear e⟩

theorem copy_cyc (hC : Cr w b S s) (c : Cyc s A) (h f : Int) : Calls Tryz.prog 42 #[ptr b, .int .i64 h, .int .i64 f] w (ActC w b S s A (.copy h f)) := by
  cases e : s.has f
  · exact (coCopy_no h f 3 (by decide) w (noH_no hC e)).mono fun _ w' ⟨he, hw⟩ => by subst hw; subst he; exact .same c hC.same 3 (.copy3 (.inl e))
  · cases e2 : s.has h
    · exact (coCopy_to hC f e e2).mono fun _ w' ⟨he, hw⟩ => by subst hw; subst he; exact .same c hC.same 3 (.copy3 (.inr e2))
    · exact (coCopy_yes hC f e e2).mono fun _ w' ⟨he, r⟩ => by subst he; exact ⟨_, _, 0, rfl, r, c.set h.toNat (c.at_ e), rfl, rfl, .of rfl, .copy e e2⟩

/-- What a handle holds is an object. -/
theorem Cyc.ob (c : Cyc s A) {h : Int} (e : s.has h = true) (n : s.at_ h ≠ 0) : ∃ o, A.ob (s.at_ h) = some o ∧ _root_.Go.Proofs.YthmhehehomieiaaGreat.Ob s h (s.at_ h) (o.n : Nat) o.rs.length ⟨o.age, o.par, o.grey, o.noted, decide (s.at_ h ∈ A.O)⟩ := by
  obtain ⟨ok, _⟩ := c.at_ e
  obtain ⟨o, ho⟩ := c.inv.ok_ob ok n
  have at_ := c.sim.laid.lies.at_ _ o ho
  exact ⟨o, ho, { has := e, at_ := rfl, x0 := c.inv.ob_pos ho, word := at_.head, good := at_.good }⟩

/-- A scalar is written. -/
theorem Cyc.scalar (c : Cyc s A) {p : Int} {o : Gc.Ob} (ho : A.ob p = some o) (n : Nat) (hn : n < o.ss.length) (v : Int) :
    Cyc (s.wrote (s.ws.set (p.toNat + 2 + (o.rs.length + n)) v)) (A.put p { o with ss := o.ss.set n v }) := by
  have lies := c.sim.laid.lies.scalar ho n hn v
  have hz : ({ o with ss := o.ss.set n v } : Gc.Ob).sz = o.sz := by simp [Ob.sz, Ob.n]
  have i := c.inv
  exact
    { sim := c.sim.put (o' := { o with ss := o.ss.set n v }) ho hz rfl (by simp) lies
      inv := i.put (o' := { o with ss := o.ss.set n v }) ho rfl (i.ref p o ho) (fun h1 h2 => i.old p o h1 h2 ho) (i.noted p o ho) (fun h1 => i.cur p h1 o ho)
      gx := c.gx, ph := c.ph, D := c.D, hnd := c.hnd, idle := c.idle
      scan := fun e => by
        have := c.scan e
        unfold Scan at this ⊢
        rw [show (A.put p { o with ss := o.ss.set n v }).sum ((A.put p { o with ss := o.ss.set n v }).F.take (A.put p { o with ss := o.ss.set n v }).k) = A.sum (A.F.take A.k) from Hp.sum_same fun q _ => put_szf ho hz q]
        exact this }

theorem write_cyc (hC : Cr w b S s) (c : Cyc s A) (h n v : Int) : Calls Tryz.prog 40 #[ptr b, .int .i64 h, .int .i64 n, .int .u64 v] w (ActC w b S s A (.write h n v)) := by
  cases e : s.has h
  · exact (write_wrong h n v 3 (by decide) w (wrong_no hC e)).mono fun _ w' ⟨he, hw⟩ => by subst he; exact .same c (hC.stay hw) 3 (.write3 e)
  · by_cases z : s.at_ h = 0
    · exact (write_wrong h n v 4 (by decide) w (wrong_nil hC e z)).mono fun _ w' ⟨he, hw⟩ => by subst he; exact .same c (hC.stay hw) 4 (.write4 e z)
    · obtain ⟨o, ho, ob⟩ := c.ob e z
      cases hb : scaB (o.n : Nat) o.rs.length n
      · exact (write_field hC ob n v hb).mono fun _ w' ⟨he, r⟩ => by subst he; exact .same c r 5 (.write5 e ho hb)
      · have hn := scaB_iff.1 hb
        have en : (o.n : Int) = o.rs.length + o.ss.length := by unfold Ob.n; omega
        have fit := (c.sim.laid.lies.at_ _ o ho).fit
        have e0 : o.sz = o.n + 2 := rfl
        have p0 := c.inv.ob_pos ho
        have hv : (s.at_ h + (2 + ((o.rs.length : Int) + n))).toNat < s.ws.length := by omega
        refine (write_yes hC ob n v hb hv).mono fun _ w' ⟨he, r⟩ => ?_
        subst he
        have ix : (s.at_ h + (2 + ((o.rs.length : Int) + n))).toNat = (s.at_ h).toNat + 2 + (o.rs.length + n.toNat) := by omega
        rw [ix] at r
        exact ⟨_, _, 0, rfl, r, c.scalar ho n.toNat (by omega) v, rfl, rfl, .of rfl, .write e ho hb⟩
end
end Gc
end Go.Proofs.YthmhehehomieiaaGreat

/- Get, whatever stands in a heap. -/
namespace Go.Proofs.YthmhehehomieiaaGreat
namespace Gc
open Go.RowKit

section
variable {A B : Hp} {s s2 : Co} {w : World} {b : Nat} {S : Nat → Prop}

/-- Behind a move. -/
theorem Cyc.moved (c : Cyc s A) {p r : Int} (ok : A.ok p) (m : MoveD s A p s2 B r) (h2 : Sim s2 B) (sm : Same s s2) : Cyc s2 B ∧ B.ok r ∧ r ∉ B.E := by
  obtain ⟨i2, md, rk, rE, _, _⟩ := m.r.keeps c.inv (.inl rfl) ok
  refine ⟨{ sim := h2, inv := i2, gx := sm.gx.trans c.gx, ph := sm.ph.trans c.ph, D := fun q => by rw [md.D]; exact c.D q, hnd := fun q hq => by rw [md.E]; exact c.hnd q (md.hs ▸ hq), scan := fun e => ?_, idle := fun e => ?_ }, rk, rE⟩
  · have sc := c.scan (sm.mv ▸ e)
    obtain ⟨l, hl⟩ := md.F
    unfold Scan
    rw [sm.scan, sm.cf, sm.yn, md.k, hl, List.take_append_of_le_length c.inv.kl, (md.fol 0).sum _ fun q hq => (c.inv.dom q).2 (.inl (List.mem_of_mem_take hq))]
    exact sc
  · obtain ⟨a1, a2, a3, a4, a5⟩ := c.idle (sm.mv ▸ e)
    cases m with
    | stay _ => exact ⟨a1, a2, a3, by rw [sm.rx]; exact a4, by rw [sm.rm]; exact a5⟩
    | gone h _ _ => rw [a1] at h; cases h
    | old h _ _ _ _ _ _ => rw [a1] at h; cases h
    | young h _ _ _ _ _ => rw [a1] at h; cases h

set_option maxHeartbeats 8000000 in
set_option maxRecDepth 100000 in
theorem get_ref (hC : Cr w b S s) (c : Cyc s A) (d h n : Int) {o : Gc.Ob} (ho : A.ob (s.at_ h) = some o) (ob : _root_.Go.Proofs.YthmhehehomieiaaGreat.Ob s h (s.at_ h) (o.n : Nat) o.rs.length ⟨o.age, o.par, o.grey, o.noted, decide (s.at_ h ∈ A.O)⟩)
    (e1 : s.has d = true) (hb : refB (o.rs.length : Int) n = true) : Calls Tryz.prog 35 #[ptr b, .int .i64 d, .int .i64 h, .int .i64 n] w (ActC w b S s A (.get d h n)) := by
  obtain ⟨m0, m1⟩ := refB_iff.1 hb
  have at_ := c.sim.laid.lies.at_ _ o ho
  have fit := at_.fit
  have p0 := c.inv.ob_pos ho
  have hn : n.toNat < o.rs.length := by omega
  have hr0 : o.rs[n.toNat]? = some o.rs[n.toNat] := List.getElem?_eq_getElem hn
  generalize o.rs[n.toNat] = q at hr0
  have ok := c.inv.ref _ o ho q (List.mem_of_getElem? hr0)
  have rb := c.sim.bound c.inv hC.wl ok
  have hq : s.ws[(s.at_ h + (2 + n)).toNat]? = some q := by
    have := at_.body n.toNat q (by rw [List.getElem?_append_left hn]; exact hr0)
    rwa [show (s.at_ h + (2 + n)).toNat = (s.at_ h).toNat + 2 + n.toNat by omega]
  have EN : Hid (∀ s2 B r, MoveD s A q s2 B r → Ent s A (.get d h n) 0 (s2.put (s2.hs.set d.toNat r)) { B with hs := s2.hs.set d.toNat r }) := Lib.hid (fun s2 B r m => .get ob.has ho e1 hb hr0 m)
  have HB := Lib.hid hb
  have E1 := Lib.hid e1
  have FQ := Lib.hid (fun w1 S1 (k : Cr w1 b S1 s) => field_co k (s.at_ h) n q m0 (by have := ob.nums; omega) (by omega) hq)
  have MV := Lib.hid (fun w1 S1 (k : Cr w1 b S1 s) => move_sim k c.sim c.inv ok)
  have CM := Lib.hid (fun B r s2 (m : MoveD s A q s2 B r) (h2 : Sim s2 B) (sm : Same s s2) => Cyc.moved c ok m h2 sm)
  have PH := Lib.hid c.ph
  have K0 := Lib.hid hC.way
  have H := Lib.hid (held_ob hC ob)
  generalize (⟨o.age, o.par, o.grey, o.noted, decide (s.at_ h ∈ A.O)⟩ : HdP) = t at *
  generalize ((o.n : Nat) : Int) = zz at *
  generalize (o.rs.length : Int) = pp at *
  clear hC c ho ob e1 hb at_ fit p0 hn hr0 ok hq m0 m1
  go_enter Tryz.func35, Tryz.ntmps35
  go_wp2_with fail
  refine H.out.mono ?_
  rintro e w1 ⟨rfl, r1⟩
  have k1 := (K0.out.after (Mv.of_below (Below.refl _ _)) (fun _ e => e.elim) r1).1
  have K1 := Lib.hid (k1.box (.cells #[.int .i64 zz, .int .i64 pp, .int .i64 t.g, .int .i64 t.y, .bool t.f1, .bool t.f2, .bool t.f3] 93))
  have X1 := Lib.hid (Blk.new w1 #[.int .i64 zz, .int .i64 pp, .int .i64 t.g, .int .i64 t.y, .bool t.f1, .bool t.f2, .bool t.f3] 93)
  clear H r1 k1 K0
  have HG := Lib.hid (fun S (k : Cr (w1.alloc (.cells #[.int .i64 zz, .int .i64 pp, .int .i64 t.g, .int .i64 t.y, .bool t.f1, .bool t.f2, .bool t.f3] 93)) b S s) => show _ from hand_yes k E1.out)
  obtain ⟨S1, C1, _⟩ := K1.out.cr
  have G := Lib.hid (HG.out S1 C1)
  clear C1 HG
  go_wp2_with fail
  refine G.out.mono ?_
  rintro e w2 ⟨rfl, rfl⟩
  clear G
  have HS := Lib.hid (fun w => isRef_any zz pp t.g t.y n t.f1 t.f2 t.f3 w)
  go_wp2_with fail
  refine (HS.out _).mono ?_
  rw [HB.out]
  rintro e w2 ⟨rfl, b2⟩
  have K2 := Lib.hid (K1.out.keep b2)
  clear b2 K1 X1 HS
  obtain ⟨S2, C2, M2, Z2⟩ := K2.out.is
  obtain ⟨a, c13, hq⟩ := FQ.out _ S2 C2
  have HQ := Lib.hid hq
  have M2 := Lib.hid M2
  have Z2 := Lib.hid Z2
  clear C2 hq
  go_wp2_with fail
  refine HQ.out.mono ?_
  rintro e w3 ⟨rfl, r3⟩
  have K3 := Lib.hid (K2.out.after M2.out Z2.out r3).1
  clear HQ r3 M2 Z2 K2 c13
  obtain ⟨S3, C3, M3, Z3⟩ := K3.out.is
  have HM := Lib.hid (MV.out w3 S3 C3)
  have M3 := Lib.hid M3
  have Z3 := Lib.hid Z3
  clear C3 MV FQ
  go_wp2_with fail
  refine HM.out.mono ?_
  rintro e w4 ⟨s2, B, r, rfl, cr, mR, h2, sm⟩
  obtain ⟨c2, rk, rE⟩ := CM.out B r s2 mR h2 sm
  have EM := Lib.hid (EN.out s2 B r mR)
  have K4 := Lib.hid (K3.out.after M3.out Z3.out cr).1
  have C2 := Lib.hid (And.intro c2 (And.intro rk (And.intro rE sm)))
  have has2 : s2.has d = true := by have := E1.out; unfold Co.has at this ⊢; rw [sm.hs]; exact this
  clear cr mR h2 sm c2 rk rE HM M3 Z3 K3 CM EN
  obtain ⟨S4, C4, M4, Z4⟩ := K4.out.is
  have HK := Lib.hid (mark_no C4 r (by rw [C2.out.2.2.2.ph, PH.out]; decide))
  obtain ⟨i, hi, hl, _, _⟩ := Co.has_yes has2
  obtain ⟨t', c18, ht⟩ := tset_co C4 i hl r
  rw [← hi] at ht
  rw [show i = d.toNat by omega] at ht
  have HT := Lib.hid ht
  have M4 := Lib.hid M4
  have Z4 := Lib.hid Z4
  clear C4 ht hi hl has2
  go_wp2_with fail
  refine HK.out.mono ?_
  rintro e w5 ⟨rfl, rfl⟩
  clear HK
  go_wp2_with fail
  refine HT.out.mono ?_
  rintro e w5 ⟨rfl, r5⟩
  have RE : Hid (ActC w b S s A (.get d h n) (.returned (.int .i64 0)) w5) := Lib.hid ⟨_, _, 0, rfl, (K4.out.after M4.out Z4.out r5).1.done, C2.out.1.set d.toNat ⟨C2.out.2.1, C2.out.2.2.1⟩, C2.out.2.2.2.cf, C2.out.2.2.2.mv, .of C2.out.2.2.2.nums, EM.out⟩
  clear HT r5 M4 Z4 K4 c18
  go_wp2
  go_ret
  exact RE.out

theorem get_cyc (hC : Cr w b S s) (c : Cyc s A) (d h n : Int) : Calls Tryz.prog 35 #[ptr b, .int .i64 d, .int .i64 h, .int .i64 n] w (ActC w b S s A (.get d h n)) := by
  cases e : s.has h
  · exact (get_wrong d h n 3 (by decide) w (wrong_no hC e)).mono fun _ w' ⟨he, hw⟩ => by subst he; exact .same c (hC.stay hw) 3 (.get3 e)
  · by_cases z : s.at_ h = 0
    · exact (get_wrong d h n 4 (by decide) w (wrong_nil hC e z)).mono fun _ w' ⟨he, hw⟩ => by subst he; exact .same c (hC.stay hw) 4 (.get4 e z)
    · obtain ⟨o, ho, ob⟩ := c.ob e z
      cases e1 : s.has d
      · exact (get_to hC ob d n e1).mono fun _ w' ⟨he, r⟩ => by subst he; exact .same c r 3 (.getTo e ho e1)
      · cases hb : refB (o.rs.length : Int) n
        · exact (get_field hC ob d n e1 hb).mono fun _ w' ⟨he, r⟩ => by subst he; exact .same c r 5 (.get5 e ho e1 hb)
        · exact get_ref hC c d h n ho ob e1 hb
end
end Gc
end Go.Proofs.YthmhehehomieiaaGreat

/- Set, whatever stands in a heap. -/
namespace Go.Proofs.YthmhehehomieiaaGreat
namespace Gc
open Go.RowKit

section
variable {A B : Hp} {s s2 : Co} {w : World} {b : Nat} {S : Nat → Prop}

/-- A reference is written. -/
theorem Cyc.refd (c : Cyc s A) {x q : Int} {o : Gc.Ob} (ho : A.ob x = some o) (n : Nat) (hn : n < o.rs.length) (hq : A.ok q ∧ q ∉ A.E) :
    Sim (s.wrote (s.ws.set (x.toNat + 2 + n) q)) (A.put x { o with rs := o.rs.set n q }) ∧ Inv x (A.put x { o with rs := o.rs.set n q }) ∧ (x ∈ A.O → q ∉ A.F → Inv 0 (A.put x { o with rs := o.rs.set n q })) ∧ (x ∉ A.O → Inv 0 (A.put x { o with rs := o.rs.set n q })) ∧
      (x ∈ A.O → ∀ r ∈ o.rs.set n q, r ∈ A.E → x ∈ A.row ∨ A.X x) := by
  have i := c.inv
  have lies := c.sim.laid.lies.refer ho n hn q
  have hz : ({ o with rs := o.rs.set n q } : Gc.Ob).sz = o.sz := by simp [Ob.sz, Ob.n]
  have mem : ∀ r ∈ o.rs.set n q, r ∈ o.rs ∨ r = q := fun r hr => List.mem_or_eq_of_mem_set hr
  have x0 := i.ob_pos ho
  have ok : ∀ r ∈ o.rs.set n q, A.ok r := fun r hr => by
    rcases mem r hr with e | rfl
    · exact i.ref x o ho r e
    · exact hq.1
  have cur : x ∈ A.F.take A.k → ∀ r ∈ o.rs.set n q, r ∉ A.E := fun h1 r hr => by
    rcases mem r hr with e | rfl
    · exact i.cur x h1 o ho r e
    · exact hq.2
  refine ⟨c.sim.put (o' := { o with rs := o.rs.set n q }) ho hz rfl (by simp) lies, i.weak.put (o' := { o with rs := o.rs.set n q }) ho rfl ok (fun _ h => absurd rfl h) (i.noted x o ho) cur, fun hO hF => ?_, fun hO => ?_, fun hO r hr e => ?_⟩
  · refine i.put (o' := { o with rs := o.rs.set n q }) ho rfl ok (fun h1 h2 r hr => ?_) (i.noted x o ho) cur
    rcases mem r hr with e | rfl
    · exact i.old x o h1 h2 ho r e
    · exact ⟨fun e => absurd e hF, fun e => absurd e hq.2⟩
  · exact i.put (o' := { o with rs := o.rs.set n q }) ho rfl ok (fun h1 => absurd h1 hO) (i.noted x o ho) cur
  · rcases mem r hr with z | rfl
    · exact ((i.old x o hO (by omega) ho r z).2 e).imp id fun z => z.2
    · exact absurd e hq.2

/-- Behind a write, and perhaps a note. -/
theorem Cyc.near (c : Cyc s A) {B : Hp} {s2 : Co} (h2 : Sim s2 B) (i2 : Inv 0 B) (nr : Near s s2) (sc : s2.mv = true → Scan s2 B) (hE : B.E = A.E) (hh : B.hs = A.hs) (hX : B.X = A.X) (hD : B.D = A.D) (hr : B.row = A.row) : Cyc s2 B :=
  { sim := h2, inv := i2, gx := nr.gx.trans c.gx, ph := nr.ph.trans c.ph, D := fun q => by rw [hD]; exact c.D q, hnd := fun q hq => by rw [hE]; exact c.hnd q (hh ▸ hq), scan := sc
    idle := fun e => by
      obtain ⟨a1, a2, a3, a4, a5⟩ := c.idle (nr.mv ▸ e)
      exact ⟨by rw [hE]; exact a1, by rw [hX]; exact a2, by rw [hr]; exact a3, by rw [nr.rx]; exact a4, by rw [nr.rm]; exact a5⟩ }

/-- What an entry leaves, if all goes well. -/
def Fin (s : Co) (A : Hp) (x : Int) (o : Gc.Ob) (n : Nat) (q : Int) (s' : Co) : Prop := ∃ B, Cyc s' B ∧ s'.cf = s.cf ∧ s'.mv = s.mv ∧ nums s' = nums s ∧ SetD s A x o n q s' B

/-- Behind a write of a reference: nothing to be noted, or a note. -/
theorem Cyc.set_fin (c : Cyc s A) {x q : Int} {o : Gc.Ob} (ho : A.ob x = some o) (n : Nat) (hn : n < o.rs.length) (hq : A.ok q ∧ q ∉ A.E) (x1 : x ≤ 1048576) :
    (s.youngB q = false → Fin s A x o n q (s.wrote (s.ws.set (x.toNat + 2 + n) q))) ∧
    (s.youngB q = true → ∀ w4 S4, Cr w4 b S4 (s.wrote (s.ws.set (x.toNat + 2 + n) q)) → Calls Tryz.prog 30 #[ptr b, .int .i64 x] w4 fun e w' => e = .returned (.tuple #[]) ∧ ∃ s', CoR w4 b S4 s' w' ∧ Fin s A x o n q s') := by
  obtain ⟨hS, iX, i3, i4, hr⟩ := c.refd ho n hn hq
  have hz : ({ o with rs := o.rs.set n q } : Gc.Ob).sz = o.sz := by simp [Ob.sz, Ob.n]
  have sc : s.mv = true → Scan (s.wrote (s.ws.set (x.toNat + 2 + n) q)) (A.put x { o with rs := o.rs.set n q }) := fun e => by
    have := c.scan e
    unfold Scan at this ⊢
    rw [show (A.put x { o with rs := o.rs.set n q }).sum ((A.put x { o with rs := o.rs.set n q }).F.take (A.put x { o with rs := o.rs.set n q }).k) = A.sum (A.F.take A.k) from Hp.sum_same fun q _ => put_szf ho hz q]
    exact this
  have plain : Inv 0 (A.put x { o with rs := o.rs.set n q }) → (x ∉ A.O ∨ q ∉ A.F) → Fin s A x o n q (s.wrote (s.ws.set (x.toNat + 2 + n) q)) := fun i0 z =>
    ⟨_, c.near hS i0 (Same.wrote s _).near sc rfl rfl rfl rfl rfl, rfl, rfl, rfl, .plain z⟩
  have yF : s.youngB q = true ↔ q ∈ A.F := by
    unfold Co.youngB
    rw [Bool.or_eq_true, c.sim.laid.in_iff c.inv hq.1, c.sim.laid.from_iff c.inv hq.1]
    exact ⟨fun e => e.resolve_right hq.2, .inl⟩
  refine ⟨fun e => ?_, fun ey w4 S4 k => ?_⟩
  · have nF : q ∉ A.F := fun z => by rw [yF.2 z] at e; cases e
    by_cases hO : x ∈ A.O
    · exact plain (i3 hO nF) (.inr nF)
    · exact plain (i4 hO) (.inl hO)
  · by_cases hO : x ∈ A.O
    · refine (note_sim k hS iX hO upd_self (hr hO)).mono ?_
      rintro e w' ⟨s', B, he, cr, h2, i2, nr, fo, ⟨_, hrow⟩, _, _, nd⟩
      have nn := (Same.wrote s _).near.trans nr.toNear
      exact ⟨he, s', cr, B, c.near h2 i2 nn (fun e => (sc (nn.mv ▸ e)).near iX nr.toNear fo) fo.E fo.hs fo.X fo.D hrow, nn.cf, nn.mv, nn.nums, .note hO (yF.1 ey) nd⟩
    · have no : (s.wrote (s.ws.set (x.toNat + 2 + n) q)).oldB x = false := by
        cases z : (s.wrote (s.ws.set (x.toNat + 2 + n) q)).oldB x
        · rfl
        · exact absurd ((c.sim.old_iff x).1 z) hO
      have x0 := c.inv.ob_pos ho
      exact (note_no k x (by omega) (by omega) no).mono fun e w' ⟨he, hb⟩ => ⟨he, _, k.stay hb, plain (i4 hO) (.inl hO)⟩
end
end Gc
end Go.Proofs.YthmhehehomieiaaGreat

/- Set, whatever stands in a heap: the walk. -/
namespace Go.Proofs.YthmhehehomieiaaGreat
namespace Gc
open Go.RowKit

section
variable {A B : Hp} {s s2 : Co} {w : World} {b : Nat} {S : Nat → Prop}

set_option maxHeartbeats 8000000 in
set_option maxRecDepth 100000 in
theorem set_ref (hC : Cr w b S s) (c : Cyc s A) (h n f : Int) {o : Gc.Ob} (ho : A.ob (s.at_ h) = some o) (ob : _root_.Go.Proofs.YthmhehehomieiaaGreat.Ob s h (s.at_ h) (o.n : Nat) o.rs.length ⟨o.age, o.par, o.grey, o.noted, decide (s.at_ h ∈ A.O)⟩)
    (e1 : s.has f = true) (hb : refB (o.rs.length : Int) n = true) : Calls Tryz.prog 41 #[ptr b, .int .i64 h, .int .i64 n, .int .i64 f] w (ActC w b S s A (.set h n f)) := by
  obtain ⟨m0, m1⟩ := refB_iff.1 hb
  have at_ := c.sim.laid.lies.at_ _ o ho
  have fit := at_.fit
  have p0 := c.inv.ob_pos ho
  have hn : n.toNat < o.rs.length := by omega
  have x1 := (c.sim.bound c.inv hC.wl (c.inv.ob_ok ho)).2
  have hq := c.at_ e1
  have rb := c.sim.bound c.inv hC.wl hq.1
  have e0 : o.sz = o.n + 2 := rfl
  have en : o.n = o.rs.length + o.ss.length := rfl
  have hv : (s.at_ h + (2 + n)).toNat < s.ws.length := by omega
  obtain ⟨F1, F2⟩ := c.set_fin (b := b) ho n.toNat hn hq x1
  rw [show (s.at_ h).toNat + 2 + n.toNat = (s.at_ h + (2 + n)).toNat by omega] at F1 F2
  generalize hqe : s.at_ f = q at *
  have hw : IntKind.u64.wrap q = q := by unfold IntKind.wrap IntKind.bits; simp; omega
  have HB := Lib.hid hb
  have E1 := Lib.hid e1
  have EQ := Lib.hid hqe
  have FQ := Lib.hid (fun w1 S1 (k : Cr w1 b S1 s) => setField_co k (s.at_ h) n q m0 (by have := ob.nums; omega) (by omega) hv)
  have EN : Hid (∀ s' B, SetD s A (s.at_ h) o n.toNat q s' B → Ent s A (.set h n f) 0 s' B) := Lib.hid (fun s' B m => .set ob.has ho e1 hb (by rw [hqe]; exact m))
  have G1 := Lib.hid F1
  have G2 := Lib.hid F2
  have HY := Lib.hid (fun w1 S1 (k : Cr w1 b S1 (s.wrote (s.ws.set (s.at_ h + (2 + n)).toNat q))) => (show Calls Tryz.prog 95 #[ptr b, .int .i64 q] w1 fun e w' => e = .returned (.bool (s.youngB q)) ∧ Below w1.heap.size w1 w' from young_any k q))
  have K0 := Lib.hid hC.way
  have H := Lib.hid (held_ob hC ob)
  generalize (⟨o.age, o.par, o.grey, o.noted, decide (s.at_ h ∈ A.O)⟩ : HdP) = t at *
  generalize ((o.n : Nat) : Int) = zz at *
  generalize (o.rs.length : Int) = pp at *
  generalize s.wrote (s.ws.set (s.at_ h + (2 + n)).toNat q) = s1 at *
  generalize s.youngB q = yb at *
  clear hC c ho ob e1 hb at_ fit p0 hn x1 hq e0 en hv F1 F2 hqe m0 m1
  go_enter Tryz.func41, Tryz.ntmps41
  go_wp2_with fail
  refine H.out.mono ?_
  rintro e w1 ⟨rfl, r1⟩
  have k1 := (K0.out.after (Mv.of_below (Below.refl _ _)) (fun _ e => e.elim) r1).1
  have K1 := Lib.hid (k1.box (.cells #[.int .i64 zz, .int .i64 pp, .int .i64 t.g, .int .i64 t.y, .bool t.f1, .bool t.f2, .bool t.f3] 93))
  clear H r1 k1 K0
  have HG := Lib.hid (fun S (k : Cr (w1.alloc (.cells #[.int .i64 zz, .int .i64 pp, .int .i64 t.g, .int .i64 t.y, .bool t.f1, .bool t.f2, .bool t.f3] 93)) b S s) => by have := hand_yes k E1.out; rw [EQ.out] at this; exact this)
  obtain ⟨S1, C1, _⟩ := K1.out.cr
  have G := Lib.hid (HG.out S1 C1)
  clear C1 HG
  go_wp2_with fail
  refine G.out.mono ?_
  rintro e w2 ⟨rfl, rfl⟩
  clear G
  have HS := Lib.hid (fun w => isRef_any zz pp t.g t.y n t.f1 t.f2 t.f3 w)
  go_wp2_with fail
  refine (HS.out _).mono ?_
  rw [HB.out]
  rintro e w2 ⟨rfl, b2⟩
  have K2 := Lib.hid (K1.out.keep b2)
  clear b2 K1 HS
  obtain ⟨S2, C2, M2, Z2⟩ := K2.out.is
  obtain ⟨a, c13, hq⟩ := FQ.out _ S2 C2
  have HQ := Lib.hid hq
  have M2 := Lib.hid M2
  have Z2 := Lib.hid Z2
  clear C2 hq FQ
  go_wp2_with fail
  refine HQ.out.mono ?_
  rintro e w3 ⟨rfl, r3⟩
  have K3 := Lib.hid (K2.out.after M2.out Z2.out r3).1
  clear HQ r3 M2 Z2 K2 c13
  obtain ⟨S3, C3, _⟩ := K3.out.cr
  have HY3 := Lib.hid (HY.out w3 S3 C3)
  clear C3 HY
  go_wp2_with fail
  refine HY3.out.mono ?_
  rintro e w4 ⟨rfl, b4⟩
  have K4 := Lib.hid (K3.out.keep b4)
  clear HY3 b4 K3
  cases yb
  · have RE : Hid (ActC w b S s A (.set h n f) (.returned (.int .i64 0)) w4) := Lib.hid (let ⟨B, h1, h2, h3, h4, h5⟩ := G1.out rfl; ⟨s1, B, 0, rfl, K4.out.done, h1, h2, h3, .of h4, EN.out _ _ h5⟩)
    clear G1 G2 K4
    go_wp2
    go_ret
    exact RE.out
  · obtain ⟨S4, C4, M4, Z4⟩ := K4.out.is
    have HN := Lib.hid (G2.out rfl w4 S4 C4)
    have M4 := Lib.hid M4
    have Z4 := Lib.hid Z4
    clear C4 G1 G2
    go_wp2_with fail
    refine HN.out.mono ?_
    rintro e w5 ⟨rfl, s', cr, B, h1, h2, h3, h4, h5⟩
    have RE : Hid (ActC w b S s A (.set h n f) (.returned (.int .i64 0)) w5) := Lib.hid ⟨s', B, 0, rfl, (K4.out.after M4.out Z4.out cr).1.done, h1, h2, h3, .of h4, EN.out _ _ h5⟩
    clear HN cr h1 h2 h3 h4 h5 K4 M4 Z4
    go_wp2
    go_ret
    exact RE.out

theorem set_cyc (hC : Cr w b S s) (c : Cyc s A) (h n f : Int) : Calls Tryz.prog 41 #[ptr b, .int .i64 h, .int .i64 n, .int .i64 f] w (ActC w b S s A (.set h n f)) := by
  cases e : s.has h
  · exact (set_wrong h n f 3 (by decide) w (wrong_no hC e)).mono fun _ w' ⟨he, hw⟩ => by subst he; exact .same c (hC.stay hw) 3 (.set3 e)
  · by_cases z : s.at_ h = 0
    · exact (set_wrong h n f 4 (by decide) w (wrong_nil hC e z)).mono fun _ w' ⟨he, hw⟩ => by subst he; exact .same c (hC.stay hw) 4 (.set4 e z)
    · obtain ⟨o, ho, ob⟩ := c.ob e z
      cases e1 : s.has f
      · exact (set_to hC ob n f e1).mono fun _ w' ⟨he, r⟩ => by subst he; exact .same c r 3 (.setTo e ho e1)
      · cases hb : refB (o.rs.length : Int) n
        · exact (set_field hC ob n f e1 hb).mono fun _ w' ⟨he, r⟩ => by subst he; exact .same c r 5 (.set5 e ho e1 hb)
        · exact set_ref hC c h n f ho ob e1 hb
end
end Gc
end Go.Proofs.YthmhehehomieiaaGreat

/- Make, whatever stands in a heap. -/
namespace Go.Proofs.YthmhehehomieiaaGreat
open Go.RowKit

section
variable {w : World} {b : Nat} {S : Nat → Prop} {s : Co} {h : Int}

theorem left_at (hC : Cr w b S s) : Calls Tryz.prog 51 #[bpP s.pt.y] w fun e w' => e = .returned (.int .i64 s.yv) ∧ Below w.heap.size w w' := by
  obtain ⟨P, own, h0, rfl, rfl⟩ := hC
  have : s.pt.y = P.y := by rw [h0.pts]; rfl
  rw [this]
  exact bLeft_any _ _ _ _ _ _ _ (h0.prt 2).1
theorem room_at (hC : Cr w b S s) : Calls Tryz.prog 125 #[bpP s.pt.y] w fun e w' => e = .returned (.int .i64 (s.cf.nu - s.yu)) ∧ Below w.heap.size w w' := by
  obtain ⟨P, own, h0, rfl, rfl⟩ := hC
  have : s.pt.y = P.y := by rw [h0.pts]; rfl
  rw [this]
  exact bRoom_any _ _ _ _ _ _ _ (h0.prt 2).1
theorem c23_of (hC : Cr w b S s) : w.cell? ⟨b, 23, none⟩ = some (.int .i64 s.cop) := by obtain ⟨_, _, _, _, hc, _⟩ := hC.cell; exact hc 23

set_option maxHeartbeats 2000000 in
set_option maxRecDepth 100000 in
/-- While a cycle goes on room is kept for what has not left yet. -/
theorem take_mv (hC : Cr w b S s) (k : Int) (hm : s.mv = true) (k1 : 1 ≤ k) (u0 : 0 ≤ s.yu) (u1 : s.yu ≤ s.cf.nu) (n1 : s.cf.nu ≤ 1048576) (v0 : 0 ≤ s.yv) (v1 : s.yv ≤ 1048576) (c0 : 0 ≤ s.cop) (c1 : s.cop ≤ s.yv) :
    (s.cf.nu - s.yu - (s.yv - s.cop) < k → Calls Tryz.prog 86 #[ptr b, .int .i64 k] w fun e w' => e = .returned (.tuple #[.int .i64 0, .bool false]) ∧ Below w.heap.size w w') ∧
    (k ≤ s.cf.nu - s.yu - (s.yv - s.cop) → Calls Tryz.prog 86 #[ptr b, .int .i64 k] w fun e w' => e = .returned (.tuple #[.int .i64 (hAt s.cf.nu 1 s.yn + s.yu), .bool true]) ∧ CoR w b S (s.took k) w') := by
  have c21 : w.cell? ⟨b, 21, none⟩ = some (.bool s.mv) := by obtain ⟨_, _, _, _, hc, _⟩ := hC.cell; exact hc 21
  rw [hm] at c21
  have c14 : w.cell? ⟨b, 14, none⟩ = some (bpP s.pt.y) := by
    obtain ⟨P, own, h0, rfl, rfl⟩ := hC
    have : s.pt.y = P.y := by rw [h0.pts]; rfl
    rw [this]; exact h0.cell 14
  have HR := Lib.hid (room_at hC)
  have C := Lib.hid (fun w1 (f : Below w.heap.size w w1) => hC.keep f)
  have A14 := Lib.hid (fun w1 (k : Cr w1 b S s) => (show w1.cell? ⟨b, 14, none⟩ = some (bpP s.pt.y) from by
    obtain ⟨P, own, h0, rfl, rfl⟩ := k
    have : s.pt.y = P.y := by rw [h0.pts]; rfl
    rw [this]; exact h0.cell 14))
  have hw : IntKind.i64.wrap (s.yv - s.cop) = s.yv - s.cop := IntWalk.i64_in _ (by omega)
  have hw2 : IntKind.i64.wrap (s.cf.nu - s.yu - (s.yv - s.cop)) = s.cf.nu - s.yu - (s.yv - s.cop) := IntWalk.i64_in _ (by omega)
  have a21 := Lib.hid (fun w1 (k : Cr w1 b S s) => (show w1.cell? ⟨b, 21, none⟩ = some (.bool true) from by obtain ⟨_, _, _, _, hc, _⟩ := k.cell; rw [← hm]; exact hc 21))
  refine ⟨fun hk => ?_, fun hk => ?_⟩

  · have HK := Lib.hid hk
    clear hm
    generalize hrr : s.cf.nu - s.yu - (s.yv - s.cop) = rr at *
    have HRR := Lib.hid hrr
    go_enter Tryz.func86, Tryz.ntmps86
    go_wp2_with fail
    refine HR.out.mono ?_
    rintro e w1 ⟨rfl, b1⟩
    have d21 := a21.out w1 (C.out w1 b1)
    have kk := C.out _ (below_trans b1 (below_drew w1))
    have bb := below_trans b1 (below_drew w1)
    clear b1 HR c14 c21 hC
    go_upto_region 3 with (fail)
    clear d21
    go_region_held3 (fun w' => w'.cell? ⟨b, 14, none⟩ = some (bpP s.pt.y) ∧ w'.cell? ⟨b, 23, none⟩ = some (.int .i64 s.cop)) (exact ⟨A14.out _ kk, c23_of kk⟩)
      ((go_at_call 51; refine (left_at kk).mono ?_; rintro e v1 ⟨rfl, b2⟩; have kk := kk.keep b2; have bb := below_trans bb b2; clear b2))
    have BB := Lib.hid bb
    have hk := HK.out
    clear bb kk A14 a21 C
    go_wp2
    go_ret2
    exact ⟨rfl, BB.out⟩
  · have BT := Lib.hid (fun w1 S1 (k' : Cr w1 b S1 s) => (settle_co k' k k1 (by omega)))
    have HK := Lib.hid hk
    clear hm
    generalize hrr : s.cf.nu - s.yu - (s.yv - s.cop) = rr at *
    have HRR := Lib.hid hrr
    go_enter Tryz.func86, Tryz.ntmps86
    go_wp2_with fail
    refine HR.out.mono ?_
    rintro e w1 ⟨rfl, b1⟩
    have d21 := a21.out w1 (C.out w1 b1)
    have kk := C.out _ (below_trans b1 (below_drew w1))
    have bb := below_trans b1 (below_drew w1)
    clear b1 HR c14 c21 hC
    go_upto_region 3 with (fail)
    clear d21
    go_region_held3 (fun w' => w'.cell? ⟨b, 14, none⟩ = some (bpP s.pt.y) ∧ w'.cell? ⟨b, 23, none⟩ = some (.int .i64 s.cop)) (exact ⟨A14.out _ kk, c23_of kk⟩)
      ((go_at_call 51; refine (left_at kk).mono ?_; rintro e v1 ⟨rfl, b2⟩; have kk := kk.keep b2; have bb := below_trans bb b2; clear b2))
    have BB := Lib.hid bb
    have hk := HK.out
    have HT := Lib.hid (BT.out _ _ kk)
    clear bb kk A14 a21 C BT
    go_wp2_with fail
    refine HT.out.mono ?_
    rintro e w3 ⟨rfl, r3⟩
    have RE := Lib.hid (CoR.pre BB.out r3)
    clear r3 HT
    go_wp2
    go_ret2
    exact ⟨rfl, RE.out⟩

set_option maxHeartbeats 8000000 in
set_option maxRecDepth 100000 in
theorem make_room_of (hC : Cr w b S s) (h p q : Int) (e0 : s.has h = true) (p0 : 0 ≤ p) (q0 : 0 ≤ q) (hl : p ≤ s.cf.lg - q) (HTk : ∀ w1, Cr w1 b S s → Calls Tryz.prog 86 #[ptr b, .int .i64 (p + q + 2)] w1 fun e w' => e = .returned (.tuple #[.int .i64 0, .bool false]) ∧ Below w1.heap.size w1 w') :
    Calls Tryz.prog 33 #[ptr b, .int .i64 h, .int .i64 p, .int .i64 q] w fun e w' => e = .returned (.int .i64 7) ∧ Below w.heap.size w w' := by
  have H := handle_any hC h
  have e3 := Co.hE_yes e0
  rw [e3] at H
  have H := Lib.hid H
  have may := hC.may
  have l0 := may.lg0
  have l1 := may.lg1
  obtain ⟨P, own, h0, _, hc, _⟩ := hC.cell
  have c8 : w.cell? ⟨b, 8, Option.none⟩ = some (.int .i64 s.cf.lg) := hc 8
  have c19 : w.cell? ⟨b, 19, Option.none⟩ = some (.int .i64 s.par) := hc 19
  have HC := Lib.hid hC
  have HTT := Lib.hid HTk
  clear e0 e3 hC may h0 hc HTk
  generalize s.cf.lg = lg at *
  generalize s.par = y at *
  have hw : IntKind.i64.wrap (lg - q) = lg - q := IntWalk.i64_in _ (by omega)
  have hw2 : IntKind.i64.wrap (p + q) = p + q := IntWalk.i64_in _ (by omega)
  have z0 : 0 ≤ p + q := by omega
  have z1 : p + q ≤ 64 := by omega
  go_enter Tryz.func33, Tryz.ntmps33
  go_wp2_with fail
  refine H.out.mono ?_
  rintro e w1 ⟨rfl, rfl⟩
  clear H
  go_wp2_with fail
  refine (oWords_any _ _ _ _ _ _ _ _ z0 z1).mono ?_
  rintro e w1 ⟨rfl, b1⟩
  have b1' := below_alloc_trans _ b1
  have k1 := HC.out.keep b1'
  have HT := Lib.hid (HTT.out _ k1)
  have B1 := Lib.hid b1'
  clear b1 b1' k1 c8 c19
  go_wp2_with fail
  refine HT.out.mono ?_
  rintro e w2 ⟨rfl, b2⟩
  have B2 := Lib.hid (below_trans B1.out b2)
  clear HT b2 B1
  go_wp2
  go_ret
  exact ⟨rfl, B2.out⟩

set_option maxHeartbeats 8000000 in
set_option maxRecDepth 100000 in
theorem make_yes_of (hC : Cr w b S s) (h p q : Int) (e0 : s.has h = true) (p0 : 0 ≤ p) (q0 : 0 ≤ q) (hl : p ≤ s.cf.lg - q) (HTk : ∀ w1 S1, Cr w1 b S1 s → Calls Tryz.prog 86 #[ptr b, .int .i64 (p + q + 2)] w1 fun e w' => e = .returned (.tuple #[.int .i64 s.next, .bool true]) ∧ CoR w1 b S1 (s.took (p + q + 2)) w') (hy : s.par = 0 ∨ s.par = 1)
    (ha : 0 ≤ s.next) (hw : s.next + (p + q + 2) ≤ s.ws.length) (a0 : 0 ≤ s.d.al) (a1 : s.d.al ≤ 4611686018427387904) (d0 : 0 ≤ s.d.wd) (d1 : s.d.wd ≤ 4611686018427387904) :
    Calls Tryz.prog 33 #[ptr b, .int .i64 h, .int .i64 p, .int .i64 q] w fun e w' => e = .returned (.int .i64 0) ∧ CoR w b S (s.made h p q) w' := by
  have H := handle_any hC h
  have e3 := Co.hE_yes e0
  rw [e3] at H
  have H := Lib.hid H
  have may := hC.may
  have l0 := may.lg0
  have l1 := may.lg1
  obtain ⟨P, own, h0, _, hc, _⟩ := hC.cell
  have c8 : w.cell? ⟨b, 8, Option.none⟩ = some (.int .i64 s.cf.lg) := hc 8
  have c19 : w.cell? ⟨b, 19, Option.none⟩ = some (.int .i64 s.par) := hc 19
  have W0 := Lib.hid hC.way
  have HTT := Lib.hid HTk
  obtain ⟨i, hi, hi2, _, _⟩ := Co.has_yes e0
  have hit : h.toNat = i := by omega
  have HI := Lib.hid (And.intro hi (And.intro hit hi2))
  have HL := Lib.hid hw
  have HG : Hid (goodB (p + q) p 0 s.par = true) := Lib.hid ((goodB_iff ..).2 (by omega))
  clear e0 e3 may h0 hc HTk hw hi hi2 hit
  have hlg : s.cf.lg = s.cf.lg := rfl
  have hw : IntKind.i64.wrap (s.cf.lg - q) = s.cf.lg - q := IntWalk.i64_in _ (by omega)
  have hw2 : IntKind.i64.wrap (p + q) = p + q := IntWalk.i64_in _ (by omega)
  have hw3 : IntKind.i64.wrap (s.d.al + 1) = s.d.al + 1 := IntWalk.i64_in _ (by omega)
  have hw4 : IntKind.i64.wrap (s.d.wd + (p + q + 2)) = s.d.wd + (p + q + 2) := IntWalk.i64_in _ (by omega)
  have z0 : 0 ≤ p + q := by omega
  have z1 : p + q ≤ 64 := by omega
  clear hlg hy
  go_enter Tryz.func33, Tryz.ntmps33
  go_wp2_with fail
  refine H.out.mono ?_
  rintro e w1 ⟨rfl, rfl⟩
  clear H hC
  go_wp2_with fail
  refine (oWords_any _ _ _ _ _ _ _ _ z0 z1).mono ?_
  rintro e w1 ⟨rfl, b1⟩
  have K1 := Lib.hid ((W0.out.box (.cells #[.int .i64 (p + q), .int .i64 p, .int .i64 0, .int .i64 s.par, .bool false, .bool false, .bool false] 93)).keep b1)
  have X1 := Lib.hid ((Blk.new w #[.int .i64 (p + q), .int .i64 p, .int .i64 0, .int .i64 s.par, .bool false, .bool false, .bool false] 93).keep b1)
  clear b1 c8 c19
  have HT := Lib.hid (K1.out.call (R := fun e => e = .returned (.tuple #[.int .i64 s.next, .bool true])) fun S k => HTT.out _ _ k)
  go_wp2_with fail
  refine HT.out.mono ?_
  rintro e w2 ⟨rfl, k2, kp2⟩
  have K2 := Lib.hid (k2.keep (below_drew w2))
  have x2 := X1.out.kp kp2 (.inr rfl)
  have X2 := Lib.hid x2
  obtain ⟨S2, C2, M2, Z2⟩ := K2.out.is
  obtain ⟨a, c13, hmk⟩ := make_co C2 s.next (p + q) p s.par HG.out ha HL.out
  have HMk := Lib.hid hmk
  have M2 := Lib.hid M2
  have Z2 := Lib.hid Z2
  have d13 : w2.cell? ⟨b, 13, Option.none⟩ = some (arP a) := c13
  obtain ⟨x0, x1, x2', x3, x4, x5, x6, xf⟩ := x2.seven
  clear HT k2 kp2 K1 X1 x2 hmk C2 c13
  go_wp2
  go_still_tail 6, (by kernel_rfl)
  change wpList _ _ _ _ _ w2.drew
  clear d13 x0 x1 x2' x3 x4 x5 x6 xf
  go_wp2_with fail
  refine HMk.out.mono ?_
  rintro e w3 ⟨rfl, r3⟩
  have k3 := (K2.out.after M2.out Z2.out r3).1
  clear HMk r3 M2 Z2 K2 X2
  obtain ⟨S3, C3, M3, Z3⟩ := k3.is
  obtain ⟨P3, own3, h3, _, hc, hf, _⟩ := C3.cell
  have c26 : w3.cell? ⟨b, 26, Option.none⟩ = some (.int .i64 s.d.al) := hc 26
  have c27 : w3.cell? ⟨b, 27, Option.none⟩ = some (.int .i64 s.d.wd) := hc 27
  obtain ⟨S4, C4, M4⟩ := C3.did (s.d.al + 1) (s.d.wd + (p + q + 2))
  obtain ⟨t, c18, ht⟩ := tset_co C4 i HI.out.2.2 s.next
  have K3 := Lib.hid k3
  have M3 := Lib.hid M3
  have Z3 := Lib.hid Z3
  have M4 := Lib.hid M4
  rw [← HI.out.1] at ht
  have HT := Lib.hid ht
  clear h3 hc k3 C3 C4 ht
  go_wp2_with fail
  refine HT.out.mono ?_
  rintro e w5 ⟨rfl, r5⟩
  obtain ⟨S5, C5, M5⟩ := r5
  have RE : Hid (CoR w b S (s.made h p q) w5) := Lib.hid ⟨S5, by unfold Co.made; rw [HI.out.2.1]; exact C5, (M3.out.trans M4.out).trans M5⟩
  clear C5 M5 HT c18 c26 c27 hf M3 M4 Z3 K3
  go_wp2
  go_ret
  exact ⟨rfl, RE.out⟩
end
end Go.Proofs.YthmhehehomieiaaGreat

/- Make, whatever stands in a heap. -/
namespace Go.Proofs.YthmhehehomieiaaGreat
namespace Gc
open Go.RowKit

section
variable {A : Hp} {s : Co} {w : World} {b : Nat} {S : Nat → Prop}

theorem make_un {x q : Int} {o : Gc.Ob} (i : Inv x A) (hq : A.ob q = none) : (A.make q o).un = A.un := by
  have fr := fresh i hq
  unfold Hp.un
  have e : (A.make q o).E = A.E := rfl
  rw [e]
  refine List.filter_congr fun u hu => ?_
  have nq : u ≠ q := fun z => fr.2.1 (z ▸ hu)
  have : (A.make q o).now u = A.now u := by
    unfold Hp.now
    rw [show (A.make q o).ob u = A.ob u from upd_ne nq]
    rfl
  rw [this]

/-- A new object. -/
theorem Cyc.made (c : Cyc s A) (h : Int) (a d : Nat) (hl : s.wi.length = (1 + 2 * s.cf.nu).toNat) (hn : s.yu + ((a + d + 2 : Nat) : Int) + A.rest ≤ s.cf.nu) (s64 : a + d ≤ 64) : Cyc (s.made h a d) { A.make s.next (s.newOb a d) with hs := s.hs.set h.toNat s.next } := by
  have i := c.inv
  have y := c.sim.par
  obtain ⟨hq, q0, ld, rs⟩ := c.sim.laid.make i hn s64 y.1 y.2
  have eq : s.next = hAt s.cf.nu 1 s.yn + s.yu := rfl
  generalize eo : (⟨0, s.par, false, false, hAt s.cf.nu 1 s.yn + s.yu, List.replicate a 0, List.replicate d 0⟩ : Gc.Ob) = o at *
  have i1 := i.make (o := o) hq q0 (by rw [← eo]; intro r hr; exact (List.mem_replicate.1 hr).2)
  have un := make_un (o := o) i hq
  have fr := fresh i hq
  rw [← eq] at *
  have ok : ∀ p ∈ s.hs.set h.toNat s.next, (A.make s.next o).ok p ∧ p ∉ A.E := fun p hp => by
    rcases List.mem_or_eq_of_mem_set hp with e | rfl
    · obtain ⟨k1, k2⟩ := c.held e
      refine ⟨?_, k2⟩
      rcases k1 with z | z | z | z
      · exact .inl z
      · exact .inr (.inl (List.mem_append_left _ z))
      · exact .inr (.inr (.inl z))
      · exact .inr (.inr (.inr z))
    · exact ⟨.inr (.inl (List.mem_append_right _ (by simp))), fr.2.1⟩
  have epq : ((a : Int) + (d : Int)) = ((a + d : Nat) : Int) := by omega
  have eN : s.newOb a d = o := eo
  rw [eN]
  exact
    { sim :=
        { laid := by
            have l2 := ld.side (B := { A.make s.next o with hs := s.hs.set h.toNat s.next }) rfl rfl rfl rfl
            show Laid s.cf.nu s.yn (s.yu + ((a : Int) + d + 2)) s.yv s.cf.pz s.pgs (madeW s.ws s.next ((a : Int) + d) (wordI ((a : Int) + d) a 0 s.par false false false)) _
            rw [epq]
            have e2 : (((a + d : Nat) : Int) + 2) = ((a + d + 2 : Nat) : Int) := by omega
            rw [e2]
            exact l2
          hs := rfl
          row := c.sim.row
          cop := by have := c.sim.cop; show s.cop + ((A.make s.next o).rest : Int) = s.yv; rw [rs]; exact this
          par := c.sim.par
          few := by have := c.sim.few; show 2 * ((A.row.length : Int) + ((A.make s.next o).un.length : Int)) ≤ s.cf.nu; rw [un]; exact this
          pl := c.sim.pl
          beg := fun p hp => c.sim.beg_took i hl (by omega) (by omega) (by
            rcases hp with e | e
            · rcases List.mem_append.1 (show p ∈ A.F ++ [s.next] from e) with e2 | e2
              · exact .inl e2
              · exact .inr (.inr ((List.mem_singleton.1 e2).trans eq))
            · exact .inr (.inl e))
          X := c.sim.X
          Y := c.sim.Y }
      inv := i1.hand fun p hp => (ok p hp).1
      gx := c.gx, ph := c.ph, D := c.D, hnd := fun p hp => (ok p hp).2, idle := c.idle
      scan := fun e => by
        have sc := c.scan e
        unfold Scan at sc ⊢
        show s.scan = hAt s.cf.nu 1 s.yn + (((A.make s.next o).sum ((A.F ++ [s.next]).take A.k) : Nat) : Int)
        rw [List.take_append_of_le_length i.kl, show (A.make s.next o).sum (A.F.take A.k) = A.sum (A.F.take A.k) from Hp.sum_same fun u hu => by
          have nq : u ≠ s.next := fun z => fr.1 (z ▸ List.mem_of_mem_take hu)
          unfold Hp.szf
          rw [show (A.make s.next o).ob u = A.ob u from upd_ne nq]]
        exact sc }
end
end Gc
end Go.Proofs.YthmhehehomieiaaGreat

/- Make, whatever stands in a heap: the call. -/
namespace Go.Proofs.YthmhehehomieiaaGreat
namespace Gc
open Go.RowKit

section
variable {A : Hp} {s : Co} {w : World} {b : Nat} {S : Nat → Prop}

theorem make_cyc (hC : Cr w b S s) (c : Cyc s A) (a p q : Int) (q1 : q ≤ 9223372036854775807) (a0 : 0 ≤ s.d.al) (a1 : s.d.al ≤ 4611686018427387904) (d0 : 0 ≤ s.d.wd) (d1 : s.d.wd ≤ 4611686018427387904) :
    Calls Tryz.prog 33 #[ptr b, .int .i64 a, .int .i64 p, .int .i64 q] w (ActC w b S s A (.make a p q)) := by
  cases e : s.has a
  · exact (make_no_h hC a p q e).mono fun _ w' ⟨he, hw⟩ => by subst hw; subst he; exact .same c hC.same 3 (.make3 e)
  · by_cases hs : p < 0 ∨ q < 0 ∨ s.cf.lg - q < p
    · exact (make_size hC a p q e hs q1).mono fun _ w' ⟨he, hw⟩ => by subst hw; subst he; exact .same c hC.same 6 (.make6 e hs)
    · have may := hC.may
      have l1 := may.lg1
      have p0 : 0 ≤ p := by omega
      have q0 : 0 ≤ q := by omega
      have hl : p ≤ s.cf.lg - q := by omega
      have hu := c.sim.laid.used
      have hle := c.sim.laid.le
      have n1 := c.sim.laid.n1
      have hcop := c.sim.cop
      have hrl := rest_le (A := A)
      have huse := c.sim.laid.he.use
      have nx := c.sim.laid.len
      have h2 := hAt_two s.cf.nu s.yn
      have pg0 := c.sim.laid.pgs0
      have enx : s.next = hAt s.cf.nu 1 s.yn + s.yu := rfl
      -- what is kept while a cycle goes on
      have rest : s.mv = false → A.rest = 0 := fun hm => by
        unfold Hp.rest Hp.un
        rw [(c.idle hm).1]
        rfl
      have cop0 : 0 ≤ s.cop := by omega
      by_cases hr : p + q + 2 ≤ s.cf.nu - s.yu - A.rest
      · have HT : ∀ w1 S1, Cr w1 b S1 s → Calls Tryz.prog 86 #[ptr b, .int .i64 (p + q + 2)] w1 fun e w' => e = .returned (.tuple #[.int .i64 s.next, .bool true]) ∧ CoR w1 b S1 (s.took (p + q + 2)) w' := fun w1 S1 k => by
          cases hm : s.mv
          · exact take_yes k (p + q + 2) hm (by omega) (by omega)
          · exact (take_mv k (p + q + 2) hm (by omega) hu.1 hu.2.1 n1 hu.2.2 (by omega) cop0 (by omega)).2 (by omega)
        refine (make_yes_of hC a p q e p0 q0 hl HT (by have := c.sim.par; omega) (by omega) (by omega) a0 a1 d0 d1).mono ?_
        rintro _ w' ⟨rfl, r⟩
        have cB := c.made a p.toNat q.toNat hC.wi_len (by omega) (by omega)
        have ep : ((p.toNat : Nat) : Int) = p := by omega
        have eq : ((q.toNat : Nat) : Int) = q := by omega
        rw [ep, eq] at cB
        exact ⟨_, _, 0, rfl, r, cB, rfl, rfl, ⟨rfl, by show s.d.al ≤ s.d.al + 1; omega, Int.le_refl _, by show s.d.wd ≤ s.d.wd + (p + q + 2); omega, by show s.d.wd + (p + q + 2) ≤ s.d.wd + 66; omega⟩, .make e p0 q0 hl hr⟩
      · have HT : ∀ w1, Cr w1 b S s → Calls Tryz.prog 86 #[ptr b, .int .i64 (p + q + 2)] w1 fun e w' => e = .returned (.tuple #[.int .i64 0, .bool false]) ∧ Below w1.heap.size w1 w' := fun w1 k => by
          cases hm : s.mv
          · have := rest hm
            exact take_no k (p + q + 2) hm (by omega)
          · exact (take_mv k (p + q + 2) hm (by omega) hu.1 hu.2.1 n1 hu.2.2 (by omega) cop0 (by omega)).1 (by omega)
        exact (make_room_of hC a p q e p0 q0 hl HT).mono fun _ w' ⟨he, hw⟩ => by subst he; exact .same c (hC.stay hw) 7 (.make7 e p0 q0 hl hr)
end
end Gc
end Go.Proofs.YthmhehehomieiaaGreat

/- The contract of core.New. -/
namespace Go.Proofs.YthmhehehomieiaaGreat
open Go.RowKit

theorem cut_in {n l m : Int} (h0 : l ≤ n) (h1 : n ≤ m) : cutI n l m = n := by unfold cutI; rw [if_neg (by omega), if_neg (by omega)]
theorem clamp_in {n : Int} (h0 : 0 ≤ n) (h1 : n ≤ 1048576) : clampN n = n.toNat := by unfold clampN; omega

theorem May.card {ha nu ps pz cd bf st tn lg mi ma na ja : Int} (h : May ha nu ps pz cd bf st tn lg mi ma na ja) : cd ≤ pz := by
  have h0 := h.pz0
  have h1 := h.cd1
  exact Int.le_of_dvd (by omega) (Int.dvd_of_tmod_eq_zero h1)
theorem May.words {ha nu ps pz cd bf st tn lg mi ma na ja : Int} (h : May ha nu ps pz cd bf st tn lg mi ma na ja) : 0 ≤ ps * pz ∧ ps * pz ≤ 16384 := mul_in h.ps0 (by have := h.pz0; omega) h.ps1 h.pz1

/-- How many words an arena has. -/
def Cfg.words (c : Cfg) : Int := 1 + 2 * c.nu + c.ps * c.pz
def Cfg.cards (c : Cfg) : List Bool := List.replicate (nmI (c.ps * c.pz) c.cd) false

/-- A new core. -/
def Co.fresh (c : Cfg) (pt : Pts) : Co where
  pt := pt
  cf := c
  ws := List.replicate c.words.toNat 0
  yn := false
  yu := 0
  yv := 0
  pgs := List.replicate c.ps.toNat .free
  ps := List.replicate c.ps.toNat false
  rx := []
  rm := c.cards
  ry := []
  rn := c.cards
  gl := false
  gx := []
  hs := zeros c.ha
  par := 0
  ph := 0
  mv := false
  scan := 0
  cop := 0
  look := -1
  row := []
  wi := List.replicate (1 + 2 * c.nu).toNat false
  d := ⟨0, 0, 0, 0, 0, 0, 0, 0⟩

/-- What is asked of a part that was made. -/
def NewF (c : Cfg) (w : World) (O : Nat → Prop) : Nat → Value → Prop
  | 3, v => ∃ a ab, v = arP a ∧ Has w a ab (List.replicate c.words.toNat 0) ∧ O a ∧ O ab
  | 8, v => ∃ y, v = bpP y ∧ IsBp w y c.nu 1 false 0 0 ∧ O y
  | 14, v => ∃ o pb ub, v = spP o ∧ IsSp w o pb ub (1 + 2 * c.nu) c.pz (List.replicate c.ps.toNat .free) (List.replicate c.ps.toNat false) ∧ ∀ k, SpS o pb ub (List.replicate c.ps.toNat .free) k → O k
  | 25, v => ∃ r p, v = ptr r ∧ IsSet w r p c.bf (1 + 2 * c.nu) (c.ps * c.pz) c.cd [] c.cards [] c.cards ∧ ∀ k, p.own r k → O k
  | 28, v => ∃ g, v = grP g ∧ IsGr w g c.st false none 0 0 [] ∧ O g
  | 31, v => ∃ t tg, v = htP t ∧ IsHt w t tg (zeros c.ha) ∧ O t ∧ O tg
  | 33, v => ∃ k, v = .slice (some ⟨k, 0, Option.none⟩) (1 + 2 * c.nu).toNat (1 + 2 * c.nu).toNat ∧ Blk w k ((List.replicate (1 + 2 * c.nu).toNat false).map Value.bool).toArray 4 ∧ O k
  | _, _ => True

/-- What was made so far lies apart, in new blocks. -/
def NewG (c : Cfg) (w0 : World) (m : Made) (w : World) : Prop :=
  Below w0.heap.size w0 w ∧ ∃ own : Nat → Nat → Prop, (∀ j k, own j k → w0.heap.size ≤ k ∧ k < w.heap.size) ∧ (∀ i j k, own i k → own j k → i = j) ∧ ∀ j v, m j = some v → NewF c w (own j) j v

section
variable {c : Cfg} {w0 w w' : World} {O O' : Nat → Prop} {m : Made}

theorem NewF.keep {j : Nat} {v : Value} (h : NewF c w O j v) (f : Below w.heap.size w w') : NewF c w' O j v := by
  unfold NewF at h ⊢
  split at h
  · obtain ⟨a, ab, e, k, o⟩ := h; exact ⟨a, ab, e, k.keep f, o⟩
  · obtain ⟨y, e, k, o⟩ := h; exact ⟨y, e, k.keep f, o⟩
  · obtain ⟨o, pb, ub, e, k, q⟩ := h; exact ⟨o, pb, ub, e, k.keep f, q⟩
  · obtain ⟨r, p, e, k, q⟩ := h; exact ⟨r, p, e, k.keep f, q⟩
  · obtain ⟨g, e, k, o⟩ := h; exact ⟨g, e, k.keep f, o⟩
  · obtain ⟨t, tg, e, k, o⟩ := h; exact ⟨t, tg, e, k.keep f, o⟩
  · obtain ⟨k, e, p, o⟩ := h; exact ⟨k, e, p.keep f, o⟩
  · trivial

theorem NewG.keep (h : NewG c w0 m w) (f : Below w.heap.size w w') : NewG c w0 m w' := by
  obtain ⟨b, own, h1, h2, h3⟩ := h
  exact ⟨below_trans b f, own, fun j k hk => ⟨(h1 j k hk).1, Nat.lt_of_lt_of_le (h1 j k hk).2 f.size⟩, h2, fun j v hv => (h3 j v hv).keep f⟩

theorem NewG.pure (h : NewG c w0 m w) (j : Nat) (v : Value) (hj : ∀ O, NewF c w O j v) : NewG c w0 (m.upd j v) w := by
  obtain ⟨b, own, h1, h2, h3⟩ := h
  refine ⟨b, own, h1, h2, fun i u hu => ?_⟩
  unfold Made.upd at hu
  by_cases e : i = j
  · subst e; rw [if_pos rfl] at hu; cases hu; exact hj _
  · rw [if_neg e] at hu; exact h3 i u hu

theorem NewG.made (h : NewG c w0 m w) (f : Below w.heap.size w w') (j : Nat) (v : Value) (hj : NewF c w' O j v) (ho : ∀ k, O k → w.heap.size ≤ k ∧ k < w'.heap.size) : NewG c w0 (m.upd j v) w' := by
  obtain ⟨b, own, h1, h2, h3⟩ := h.keep f
  obtain ⟨b', own', g1, g2, g3⟩ := h
  refine ⟨b, fun i k => if i = j then O k else own' i k, fun i k hk => ?_, fun i i' k hk hk' => ?_, fun i u hu => ?_⟩
  · simp only at hk
    by_cases e : i = j
    · rw [if_pos e] at hk; exact ⟨Nat.le_trans b'.size (ho k hk).1, (ho k hk).2⟩
    · rw [if_neg e] at hk; exact ⟨(g1 i k hk).1, Nat.lt_of_lt_of_le (g1 i k hk).2 f.size⟩
  · simp only at hk hk'
    by_cases e : i = j
    · rw [if_pos e] at hk
      by_cases e' : i' = j
      · omega
      · rw [if_neg e'] at hk'
        have := (g1 i' k hk').2
        have := (ho k hk).1
        omega
    · rw [if_neg e] at hk
      by_cases e' : i' = j
      · rw [if_pos e'] at hk'
        have := (g1 i k hk).2
        have := (ho k hk').1
        omega
      · rw [if_neg e'] at hk'; exact g2 i i' k hk hk'
  · unfold Made.upd at hu
    by_cases e : i = j
    · subst e
      rw [if_pos rfl] at hu
      cases hu
      simpa using hj
    · rw [if_neg e] at hu
      have := (g3 i u hu).keep f
      simpa [e] using this

theorem NewG.start (w : World) : NewG c w (fun _ => none) w := ⟨Below.refl _ _, fun _ _ => False, fun _ _ e => e.elim, fun _ _ _ e => e.elim, fun _ _ e => by cases e⟩
end

/-- Of which kind each operation makes something. -/
def NewV (c : Cfg) (x : Nat) : Nat → Value → Prop
  | 0 => fun v => v = cfV c.ha c.nu c.ps c.pz c.cd c.bf c.st c.tn c.lg c.mi c.ma c.na c.ja
  | 1 => fun v => v = cfV c.ha c.nu c.ps c.pz c.cd c.bf c.st c.tn c.lg c.mi c.ma c.na c.ja
  | 2 => fun v => v = .int .i64 c.words
  | 3 => fun v => ∃ k : Nat, v = arP k
  | 4 => fun v => v = cfV c.ha c.nu c.ps c.pz c.cd c.bf c.st c.tn c.lg c.mi c.ma c.na c.ja
  | 5 => fun v => v = .int .i64 1
  | 6 => fun v => v = .pointer (some ⟨x, 1, Option.none⟩)
  | 7 => fun v => v = .int .i64 c.nu
  | 8 => fun v => ∃ k : Nat, v = bpP k
  | 9 => fun v => v = .int .i64 (1 + 2 * c.nu)
  | 10 => fun v => v = .pointer (some ⟨x, 2, Option.none⟩)
  | 11 => fun v => v = .int .i64 c.ps
  | 12 => fun v => v = .pointer (some ⟨x, 3, Option.none⟩)
  | 13 => fun v => v = .int .i64 c.pz
  | 14 => fun v => ∃ k : Nat, v = .pointer (some ⟨k, 0, Option.none⟩)
  | 15 => fun v => v = .int .i64 (1 + 2 * c.nu)
  | 16 => fun v => v = .pointer (some ⟨x, 2, Option.none⟩)
  | 17 => fun v => v = .int .i64 c.ps
  | 18 => fun v => v = .pointer (some ⟨x, 3, Option.none⟩)
  | 19 => fun v => v = .int .i64 c.pz
  | 20 => fun v => v = .int .i64 (c.ps * c.pz)
  | 21 => fun v => v = .pointer (some ⟨x, 4, Option.none⟩)
  | 22 => fun v => v = .int .i64 c.cd
  | 23 => fun v => v = .pointer (some ⟨x, 5, Option.none⟩)
  | 24 => fun v => v = .int .i64 c.bf
  | 25 => fun v => ∃ k : Nat, v = ptr k
  | 26 => fun v => v = .pointer (some ⟨x, 6, Option.none⟩)
  | 27 => fun v => v = .int .i64 c.st
  | 28 => fun v => ∃ k : Nat, v = grP k
  | 29 => fun v => v = .pointer (some ⟨x, 0, Option.none⟩)
  | 30 => fun v => v = .int .i64 c.ha
  | 31 => fun v => ∃ k : Nat, v = htP k
  | 32 => fun v => v = .int .i64 (1 + 2 * c.nu)
  | 33 => fun v => ∃ k : Nat, v = .slice (some ⟨k, 0, Option.none⟩) (1 + 2 * c.nu).toNat (1 + 2 * c.nu).toNat
  | _ => fun _ => True

theorem newV_some (c : Cfg) (x : Nat) : ∀ k, ∃ v, NewV c x k v
  | 0 => ⟨_, rfl⟩
  | 1 => ⟨_, rfl⟩
  | 2 => ⟨_, rfl⟩
  | 3 => ⟨_, 0, rfl⟩
  | 4 => ⟨_, rfl⟩
  | 5 => ⟨_, rfl⟩
  | 6 => ⟨_, rfl⟩
  | 7 => ⟨_, rfl⟩
  | 8 => ⟨_, 0, rfl⟩
  | 9 => ⟨_, rfl⟩
  | 10 => ⟨_, rfl⟩
  | 11 => ⟨_, rfl⟩
  | 12 => ⟨_, rfl⟩
  | 13 => ⟨_, rfl⟩
  | 14 => ⟨_, 0, rfl⟩
  | 15 => ⟨_, rfl⟩
  | 16 => ⟨_, rfl⟩
  | 17 => ⟨_, rfl⟩
  | 18 => ⟨_, rfl⟩
  | 19 => ⟨_, rfl⟩
  | 20 => ⟨_, rfl⟩
  | 21 => ⟨_, rfl⟩
  | 22 => ⟨_, rfl⟩
  | 23 => ⟨_, rfl⟩
  | 24 => ⟨_, rfl⟩
  | 25 => ⟨_, 0, rfl⟩
  | 26 => ⟨_, rfl⟩
  | 27 => ⟨_, rfl⟩
  | 28 => ⟨_, 0, rfl⟩
  | 29 => ⟨_, rfl⟩
  | 30 => ⟨_, rfl⟩
  | 31 => ⟨_, 0, rfl⟩
  | 32 => ⟨_, rfl⟩
  | 33 => ⟨_, 0, rfl⟩
  | _ + 34 => ⟨undef, trivial⟩

attribute [local go_sem] madeUpon makes

/-- The parts that were made, and the block that holds them, are a new core. -/
theorem newG_end {c : Cfg} {w0 w : World} {m : Made} {k3 k8 k14 k25 k28 k31 k33 : Nat} (hc : c.May) (hg : NewG c w0 m w) (e3 : m 3 = some (arP k3)) (e8 : m 8 = some (bpP k8)) (e14 : m 14 = some (spP k14)) (e25 : m 25 = some (ptr k25)) (e28 : m 28 = some (grP k28)) (e31 : m 31 = some (htP k31)) (e33 : m 33 = some (.slice (some ⟨k33, 0, none⟩) (1 + 2 * c.nu).toNat (1 + 2 * c.nu).toNat)) :
    ∃ S, Cr (w.alloc (.cells (coL ⟨w.heap.size, k3, k8, k14, k25, k28, k31, none, 0, k33⟩ (Co.fresh c ⟨k3, k8, k14, k25, k28, k31⟩)) 42)) w.heap.size S (Co.fresh c ⟨k3, k8, k14, k25, k28, k31⟩) ∧ ∀ k, S k → w0.heap.size ≤ k := by
  obtain ⟨bel, own, h1, h2, h3⟩ := hg
  obtain ⟨a, ab, x3, pa, oa, ob⟩ := h3 3 _ e3
  obtain ⟨y, x8, py, oy⟩ := h3 8 _ e8
  obtain ⟨o, pb, ub, x14, po, oo⟩ := h3 14 _ e14
  obtain ⟨r, p, x25, pr, or_⟩ := h3 25 _ e25
  obtain ⟨g, x28, pg, og⟩ := h3 28 _ e28
  obtain ⟨t, tg, x31, pt, ot, otg⟩ := h3 31 _ e31
  obtain ⟨kw, x33, pw, ow⟩ := h3 33 _ e33
  cases x3
  cases x8
  cases x14
  cases x25
  cases x28
  cases x31
  cases x33
  have f := (Below.refl w.heap.size w).alloc (Nat.le_refl _) (.cells (coL ⟨w.heap.size, k3, k8, k14, k25, k28, k31, none, 0, k33⟩ (Co.fresh c ⟨k3, k8, k14, k25, k28, k31⟩)) 42)
  refine ⟨_, ⟨⟨w.heap.size, k3, k8, k14, k25, k28, k31, none, 0, k33⟩, fun j k => match j with
    | 0 => k = w.heap.size
    | 1 => own 3 k
    | 2 => own 8 k
    | 3 => own 14 k
    | 4 => own 25 k
    | 5 => own 28 k
    | 6 => own 31 k
    | 8 => own 33 k
    | _ => False, ⟨fun j => ?_, fun j k hk => ?_, fun i j k hi hj => ?_, hc, ?_, rfl⟩, rfl, rfl⟩, ?_⟩
  · rcases j with _ | _ | _ | _ | _ | _ | _ | _ | _ | j
    · exact ⟨Blk.new w _ _, rfl⟩
    · exact ⟨ab, pa.keep f, oa, ob⟩
    · exact ⟨py.keep f, oy⟩
    · exact ⟨pb, ub, po.keep f, oo⟩
    · exact ⟨p, pr.keep f, or_⟩
    · exact ⟨none, 0, pg.keep f, og, fun _ e => by cases e⟩
    · exact ⟨tg, pt.keep f, ot, otg⟩
    · exact ⟨Qu.nil _, fun _ e => by cases e⟩
    · exact ⟨pw.keep f, List.length_replicate .., ow⟩
    · exact trivial
  · have hs : (w.alloc (.cells (coL ⟨w.heap.size, k3, k8, k14, k25, k28, k31, none, 0, k33⟩ (Co.fresh c ⟨k3, k8, k14, k25, k28, k31⟩)) 42)).heap.size = w.heap.size + 1 := by simp
    rw [hs]
    rcases j with _ | _ | _ | _ | _ | _ | _ | _ | _ | j
    · simp only at hk; omega
    all_goals first | (have := (h1 _ _ hk).2; omega) | exact hk.elim
  · rcases i with _ | _ | _ | _ | _ | _ | _ | _ | _ | i <;> rcases j with _ | _ | _ | _ | _ | _ | _ | _ | _ | j <;> simp only at hi hj <;> first | rfl | exact hi.elim | exact hj.elim | (have := h2 _ _ k hi hj; omega) | (subst hi; have := (h1 _ _ hj).2; omega) | (subst hj; have := (h1 _ _ hi).2; omega)
  · have e := hc.words
    have := hc.nu1
    show (List.replicate c.words.toNat (0 : Int)).length ≤ 1048576
    rw [List.length_replicate]
    unfold Cfg.words
    omega
  · rintro k ⟨j, hk⟩
    rcases j with _ | _ | _ | _ | _ | _ | _ | _ | _ | j
    · simp only at hk; have := bel.size; omega
    all_goals first | exact (h1 _ _ hk).1 | exact hk.elim

set_option maxHeartbeats 1000000 in
theorem coNew_no (c : Cfg) (w : World) (h : mayB c.ha c.nu c.ps c.pz c.cd c.bf c.st c.tn c.lg c.mi c.ma c.na c.ja = false) :
    Calls Tryz.prog 19 #[c.v] w fun e w' => e = .returned (.tuple #[.pointer none, .int .i64 1]) ∧ Below w.heap.size w w' := by
  have H := fun w => check_any c.ha c.nu c.ps c.pz c.cd c.bf c.st c.tn c.lg c.mi c.ma c.na c.ja w
  rw [h] at H
  have H := Lib.hid H
  clear h
  go_enter Tryz.func19, Tryz.ntmps19
  go_wp2_with fail
  refine (H.out _).mono ?_
  rintro e w1 ⟨rfl, b1⟩
  have B1 := Lib.hid (below_alloc_trans _ b1)
  clear b1 H
  go_wp2
  go_ret2
  exact ⟨rfl, B1.out⟩

set_option maxHeartbeats 20000000 in
set_option maxRecDepth 100000 in
theorem coNew_yes (c : Cfg) (w : World) (h : c.May) :
    Calls Tryz.prog 19 #[c.v] w fun e w' => ∃ b S pt, e = .returned (.tuple #[ptr b, .int .i64 0]) ∧ Cr w' b S (Co.fresh c pt) ∧ Below w.heap.size w w' ∧ ∀ k, S k → w.heap.size ≤ k := by
  have H := fun w => check_any c.ha c.nu c.ps c.pz c.cd c.bf c.st c.tn c.lg c.mi c.ma c.na c.ja w
  rw [(mayB_iff ..).2 h] at H
  have H := Lib.hid H
  have HM := Lib.hid (fun w => mature_any c.ha c.nu c.ps c.pz c.cd c.bf c.st c.tn c.lg c.mi c.ma c.na c.ja w h.nu0 h.nu1)
  have HH := Lib.hid (fun w => half_any c.ha c.nu c.ps c.pz c.cd c.bf c.st c.tn c.lg c.mi c.ma c.na c.ja 0 w h.nu0 h.nu1)
  have HW := Lib.hid (fun w => words_any c.ha c.nu c.ps c.pz c.cd c.bf c.st c.tn c.lg c.mi c.ma c.na c.ja w h)
  have HY := Lib.hid h
  have m0 := h.words
  have hw : IntKind.i64.wrap (c.ps * c.pz) = c.ps * c.pz := wrap_in _ (by omega) (by omega)
  have M0 := Lib.hid m0
  clear h m0
  go_enter Tryz.func19, Tryz.ntmps19
  go_wp2_with fail
  refine (H.out _).mono ?_
  rintro e w1 ⟨rfl, b1⟩
  have kk := (Blk.new w _ _).keep b1
  have bb := below_alloc_trans _ b1
  clear b1 H
  obtain ⟨q0, q1, q2, q3, q4, q5, q6, q7, q8, q9, q10, q11, q12⟩ := kk.thirteen
  go_wp2_with fail
  refine (HM.out _).mono ?_
  rintro e w2 ⟨rfl, b2⟩
  clear q0 q1 q2 q3 q4 q5 q6 q7 q8 q9 q10 q11 q12
  have KK := Lib.hid (kk.keep b2)
  have BB := Lib.hid (below_trans bb b2)
  clear kk bb b2 HM
  go_wp2
  refine region_made_tail (NewG c w2.drew) (NewV c w.heap.size) 34 (by kernel_rfl) (by kernel_rfl) (by kernel_rfl) (newV_some c _) (NewG.start _) ?_
  simp only [List.take_succ_cons, List.take_zero, List.drop_succ_cons, List.drop_zero]

  refine wpMade_step ?_ ?_
  · intro m w' hg
    obtain ⟨q0, q1, q2, q3, q4, q5, q6, q7, q8, q9, q10, q11, q12⟩ := (KK.out.drew.keep hg.1).thirteen
    go_simp
    exact ⟨rfl, hg.pure _ _ fun _ => trivial⟩
  intro K hK
  rintro _ rfl
  go_simp
  refine hK _ _ ?_
  clear hK K
  refine wpMade_step ?_ ?_
  · intro m w' hg
    obtain ⟨q0, q1, q2, q3, q4, q5, q6, q7, q8, q9, q10, q11, q12⟩ := (KK.out.drew.keep hg.1).thirteen
    go_simp
    exact ⟨rfl, hg.pure _ _ fun _ => trivial⟩
  intro K hK
  rintro _ rfl
  go_simp
  refine hK _ _ ?_
  clear hK K
  refine wpMade_step ?_ ?_
  · intro m w' hg
    go_simp
    exact (HW.out w').mono fun e w3 ⟨he, b3⟩ => ⟨_, he, rfl, (hg.keep b3).pure _ _ fun _ => trivial⟩
  intro K hK
  rintro _ rfl
  go_simp
  refine hK _ _ ?_
  clear hK K
  refine wpMade_step ?_ ?_
  · intro m w' hg
    go_simp
    refine (new_any _ w').mono fun e w3 ⟨he, hi, b3⟩ => ⟨_, he, ⟨_, rfl⟩, hg.made (O := fun k => w'.heap.size ≤ k ∧ k < w3.heap.size) b3 _ _ ⟨_, _, rfl, ⟨0, ?_⟩, ⟨by omega, hi.ltA⟩, ⟨by omega, hi.ltB⟩⟩ fun k hk => hk⟩
    have e := clamp_in (n := c.words) (by have := M0.out; have := HY.out.nu0; unfold Cfg.words; omega) (by have := M0.out; have := HY.out.nu1; unfold Cfg.words; omega)
    rw [e] at hi
    exact hi
  intro K hK
  rintro _ ⟨k3, rfl⟩
  go_simp
  refine hK _ _ ?_
  clear hK K
  refine wpMade_step ?_ ?_
  · intro m w' hg
    obtain ⟨q0, q1, q2, q3, q4, q5, q6, q7, q8, q9, q10, q11, q12⟩ := (KK.out.drew.keep hg.1).thirteen
    go_simp
    exact ⟨rfl, hg.pure _ _ fun _ => trivial⟩
  intro K hK
  rintro _ rfl
  go_simp
  refine hK _ _ ?_
  clear hK K
  refine wpMade_step ?_ ?_
  · intro m w' hg
    go_simp
    exact (HH.out w').mono fun e w3 ⟨he, b3⟩ => ⟨_, he, rfl, (hg.keep b3).pure _ _ fun _ => trivial⟩
  intro K hK
  rintro _ rfl
  go_simp
  refine hK _ _ ?_
  clear hK K
  refine wpMade_step ?_ ?_
  · intro m w' hg
    go_simp
    exact ⟨rfl, hg.pure _ _ fun _ => trivial⟩
  intro K hK
  rintro _ rfl
  go_simp
  refine hK _ _ ?_
  clear hK K
  refine wpMade_step ?_ ?_
  · intro m w' hg
    obtain ⟨q0, q1, q2, q3, q4, q5, q6, q7, q8, q9, q10, q11, q12⟩ := (KK.out.drew.keep hg.1).thirteen
    go_simp
    exact ⟨rfl, hg.pure _ _ fun _ => trivial⟩
  intro K hK
  rintro _ rfl
  go_simp
  refine hK _ _ ?_
  clear hK K
  refine wpMade_step ?_ ?_
  · intro m w' hg
    go_simp
    refine (bNew_any _ _ w').mono fun e w3 ⟨he, hi, b3⟩ => ⟨_, he, ⟨_, rfl⟩, hg.made (O := fun k => w'.heap.size ≤ k ∧ k < w3.heap.size) b3 _ _ ⟨_, rfl, ?_, ⟨by omega, hi.lt⟩⟩ fun k hk => hk⟩
    rw [cut_in (by have := HY.out.nu0; omega) (by have := HY.out.nu1; omega), cut_in (n := 1) (by omega) (by omega)] at hi
    exact hi
  intro K hK
  rintro _ ⟨k8, rfl⟩
  go_simp
  refine hK _ _ ?_
  clear hK K
  refine wpMade_step ?_ ?_
  · intro m w' hg
    go_simp
    exact ⟨rfl, hg.pure _ _ fun _ => trivial⟩
  intro K hK
  rintro _ rfl
  go_simp
  refine hK _ _ ?_
  clear hK K
  refine wpMade_step ?_ ?_
  · intro m w' hg
    go_simp
    exact ⟨rfl, hg.pure _ _ fun _ => trivial⟩
  intro K hK
  rintro _ rfl
  go_simp
  refine hK _ _ ?_
  clear hK K
  refine wpMade_step ?_ ?_
  · intro m w' hg
    obtain ⟨q0, q1, q2, q3, q4, q5, q6, q7, q8, q9, q10, q11, q12⟩ := (KK.out.drew.keep hg.1).thirteen
    go_simp
    exact ⟨rfl, hg.pure _ _ fun _ => trivial⟩
  intro K hK
  rintro _ rfl
  go_simp
  refine hK _ _ ?_
  clear hK K
  refine wpMade_step ?_ ?_
  · intro m w' hg
    go_simp
    exact ⟨rfl, hg.pure _ _ fun _ => trivial⟩
  intro K hK
  rintro _ rfl
  go_simp
  refine hK _ _ ?_
  clear hK K
  refine wpMade_step ?_ ?_
  · intro m w' hg
    obtain ⟨q0, q1, q2, q3, q4, q5, q6, q7, q8, q9, q10, q11, q12⟩ := (KK.out.drew.keep hg.1).thirteen
    go_simp
    exact ⟨rfl, hg.pure _ _ fun _ => trivial⟩
  intro K hK
  rintro _ rfl
  go_simp
  refine hK _ _ ?_
  clear hK K
  refine wpMade_step ?_ ?_
  · intro m w' hg
    go_simp
    refine (mNew_any _ _ _ w').mono fun e w3 ⟨he, hi, b3⟩ => ⟨_, he, ⟨_, rfl⟩, hg.made (O := fun k => w'.heap.size ≤ k ∧ k < w3.heap.size) b3 _ _ ⟨_, w'.heap.size, fun _ => 0, rfl, ?_, ?_⟩ fun k hk => hk⟩
    · rw [cut_in (n := 1 + 2 * c.nu) (by have := HY.out.nu0; omega) (by have := HY.out.nu1; omega), cut_in (n := c.pz) (by have := HY.out.pz0; omega) (by have := HY.out.pz1; omega), cut_in (n := c.ps) (by have := HY.out.ps0; omega) (by have := HY.out.ps1; omega)] at hi
      exact hi
    · rw [cut_in (n := c.ps) (by have := HY.out.ps0; omega) (by have := HY.out.ps1; omega)] at hi
      intro k hk
      refine ⟨?_, hi.lt k hk⟩
      rcases hk with rfl | rfl | ⟨i, x, hx, hf, rfl⟩
      · omega
      · omega
      · rw [List.getElem?_replicate] at hx
        split at hx
        · cases hx; cases hf
        · cases hx
  intro K hK
  rintro _ ⟨k14, rfl⟩
  go_simp
  refine hK _ _ ?_
  clear hK K
  refine wpMade_step ?_ ?_
  · intro m w' hg
    go_simp
    exact ⟨rfl, hg.pure _ _ fun _ => trivial⟩
  intro K hK
  rintro _ rfl
  go_simp
  refine hK _ _ ?_
  clear hK K
  refine wpMade_step ?_ ?_
  · intro m w' hg
    go_simp
    exact ⟨rfl, hg.pure _ _ fun _ => trivial⟩
  intro K hK
  rintro _ rfl
  go_simp
  refine hK _ _ ?_
  clear hK K
  refine wpMade_step ?_ ?_
  · intro m w' hg
    obtain ⟨q0, q1, q2, q3, q4, q5, q6, q7, q8, q9, q10, q11, q12⟩ := (KK.out.drew.keep hg.1).thirteen
    go_simp
    exact ⟨rfl, hg.pure _ _ fun _ => trivial⟩
  intro K hK
  rintro _ rfl
  go_simp
  refine hK _ _ ?_
  clear hK K
  refine wpMade_step ?_ ?_
  · intro m w' hg
    go_simp
    exact ⟨rfl, hg.pure _ _ fun _ => trivial⟩
  intro K hK
  rintro _ rfl
  go_simp
  refine hK _ _ ?_
  clear hK K
  refine wpMade_step ?_ ?_
  · intro m w' hg
    obtain ⟨q0, q1, q2, q3, q4, q5, q6, q7, q8, q9, q10, q11, q12⟩ := (KK.out.drew.keep hg.1).thirteen
    go_simp
    exact ⟨rfl, hg.pure _ _ fun _ => trivial⟩
  intro K hK
  rintro _ rfl
  go_simp
  refine hK _ _ ?_
  clear hK K
  refine wpMade_step ?_ ?_
  · intro m w' hg
    go_simp
    exact ⟨rfl, hg.pure _ _ fun _ => trivial⟩
  intro K hK
  rintro _ rfl
  go_simp
  refine hK _ _ ?_
  clear hK K
  refine wpMade_step ?_ ?_
  · intro m w' hg
    go_simp
    exact ⟨rfl, hg.pure _ _ fun _ => trivial⟩
  intro K hK
  rintro _ rfl
  go_simp
  refine hK _ _ ?_
  clear hK K
  refine wpMade_step ?_ ?_
  · intro m w' hg
    obtain ⟨q0, q1, q2, q3, q4, q5, q6, q7, q8, q9, q10, q11, q12⟩ := (KK.out.drew.keep hg.1).thirteen
    go_simp
    exact ⟨rfl, hg.pure _ _ fun _ => trivial⟩
  intro K hK
  rintro _ rfl
  go_simp
  refine hK _ _ ?_
  clear hK K
  refine wpMade_step ?_ ?_
  · intro m w' hg
    go_simp
    exact ⟨rfl, hg.pure _ _ fun _ => trivial⟩
  intro K hK
  rintro _ rfl
  go_simp
  refine hK _ _ ?_
  clear hK K
  refine wpMade_step ?_ ?_
  · intro m w' hg
    obtain ⟨q0, q1, q2, q3, q4, q5, q6, q7, q8, q9, q10, q11, q12⟩ := (KK.out.drew.keep hg.1).thirteen
    go_simp
    exact ⟨rfl, hg.pure _ _ fun _ => trivial⟩
  intro K hK
  rintro _ rfl
  go_simp
  refine hK _ _ ?_
  clear hK K
  refine wpMade_step ?_ ?_
  · intro m w' hg
    go_simp
    refine (set_new w' _ _ _ _).mono fun e w3 ⟨s, p, he, hi, b3, ho⟩ => ⟨_, he, ⟨_, rfl⟩, hg.made (O := fun k => w'.heap.size ≤ k ∧ k < w3.heap.size) b3 _ _ ⟨_, p, rfl, ?_, fun k hk => ⟨ho k hk, hi.lt hk⟩⟩ fun k hk => hk⟩
    rw [cut_in (n := c.bf) (by have := HY.out.bf0; omega) (by have := HY.out.bf1; omega), cut_in (n := 1 + 2 * c.nu) (by have := HY.out.nu0; omega) (by have := HY.out.nu1; omega), cut_in (n := c.ps * c.pz) (by have := M0.out; omega) (by have := M0.out; omega),
      cut_in (n := c.cd) (by have := HY.out.cd0; omega) (by have := HY.out.card; have := HY.out.pz1; omega)] at hi
    exact hi
  intro K hK
  rintro _ ⟨k25, rfl⟩
  go_simp
  refine hK _ _ ?_
  clear hK K
  refine wpMade_step ?_ ?_
  · intro m w' hg
    go_simp
    exact ⟨rfl, hg.pure _ _ fun _ => trivial⟩
  intro K hK
  rintro _ rfl
  go_simp
  refine hK _ _ ?_
  clear hK K
  refine wpMade_step ?_ ?_
  · intro m w' hg
    obtain ⟨q0, q1, q2, q3, q4, q5, q6, q7, q8, q9, q10, q11, q12⟩ := (KK.out.drew.keep hg.1).thirteen
    go_simp
    exact ⟨rfl, hg.pure _ _ fun _ => trivial⟩
  intro K hK
  rintro _ rfl
  go_simp
  refine hK _ _ ?_
  clear hK K
  refine wpMade_step ?_ ?_
  · intro m w' hg
    go_simp
    refine (grNew_any _ w').mono fun e w3 ⟨he, hi, b3⟩ => ⟨_, he, ⟨_, rfl⟩, hg.made (O := fun k => w'.heap.size ≤ k ∧ k < w3.heap.size) b3 _ _ ⟨_, rfl, ?_, ⟨by omega, hi.lt⟩⟩ fun k hk => hk⟩
    rw [cut_in (n := c.st) (by have := HY.out.st0; omega) (by have := HY.out.st1; omega)] at hi
    exact hi
  intro K hK
  rintro _ ⟨k28, rfl⟩
  go_simp
  refine hK _ _ ?_
  clear hK K
  refine wpMade_step ?_ ?_
  · intro m w' hg
    go_simp
    exact ⟨rfl, hg.pure _ _ fun _ => trivial⟩
  intro K hK
  rintro _ rfl
  go_simp
  refine hK _ _ ?_
  clear hK K
  refine wpMade_step ?_ ?_
  · intro m w' hg
    obtain ⟨q0, q1, q2, q3, q4, q5, q6, q7, q8, q9, q10, q11, q12⟩ := (KK.out.drew.keep hg.1).thirteen
    go_simp
    exact ⟨rfl, hg.pure _ _ fun _ => trivial⟩
  intro K hK
  rintro _ rfl
  go_simp
  refine hK _ _ ?_
  clear hK K
  refine wpMade_step ?_ ?_
  · intro m w' hg
    go_simp
    refine (tbNew_any _ w').mono fun e w3 ⟨he, hi, b3⟩ => ⟨_, he, ⟨_, rfl⟩, hg.made (O := fun k => w'.heap.size ≤ k ∧ k < w3.heap.size) b3 _ _ ⟨_, _, rfl, ?_, ⟨by omega, hi.blk.lt⟩, ⟨by omega, hi.row.lt⟩⟩ fun k hk => hk⟩
    rw [cut_in (n := c.ha) (by have := HY.out.ha0; omega) (by have := HY.out.ha1; omega)] at hi
    exact hi
  intro K hK
  rintro _ ⟨k31, rfl⟩
  go_simp
  refine hK _ _ ?_
  clear hK K
  refine wpMade_step ?_ ?_
  · intro m w' hg
    go_simp
    exact ⟨rfl, hg.pure _ _ fun _ => trivial⟩
  intro K hK
  rintro _ rfl
  go_simp
  refine hK _ _ ?_
  clear hK K
  refine wpMade_step ?_ ?_
  · intro m w' hg
    go_simp
    have n0 := HY.out.nu0
    have n1 := HY.out.nu1
    rw [run_make_bool (1 + 2 * c.nu) (by omega) (by omega) w']
    have bk := Blk.new w' ((List.replicate (1 + 2 * c.nu).toNat false).map Value.bool).toArray 4
    exact ⟨⟨_, rfl⟩, hg.made (O := fun k => k = w'.heap.size) ((Below.refl _ w').alloc (Nat.le_refl _) _) 33 _ ⟨_, rfl, bk, rfl⟩ fun k hk => by subst hk; exact ⟨Nat.le_refl _, bk.lt⟩⟩
  intro K hK
  rintro _ ⟨k33, rfl⟩
  go_simp
  refine hK _ _ ?_
  clear hK K
  refine wpMade_nil ?_
  intro w' hg
  have HE := Lib.hid (newG_end HY.out hg rfl rfl rfl rfl rfl rfl rfl)
  have BE := Lib.hid (below_trans BB.out (below_trans (below_drew w2) hg.1))
  have SZ := BB.out.size
  clear HH HW hg KK BB
  go_wp2
  go_ret2
  obtain ⟨S, hS, hk⟩ := HE.out
  refine ⟨_, S, _, rfl, hS, BE.out.alloc BE.out.size _, fun k hk' => Nat.le_trans SZ (hk k hk')⟩
end Go.Proofs.YthmhehehomieiaaGreat

/- A new core holds nothing. -/
namespace Go.Proofs.YthmhehehomieiaaGreat
namespace Gc
open Go.RowKit

/-- A heap that holds nothing. -/
def Hp.none_ (n : Int) : Hp := ⟨fun _ => none, [], [], [], zeros n, [], 0, fun _ => False, fun _ => False, fun _ => False⟩

theorem no_used {F G : Int} {n : Nat} {c : Rc} : ¬ UsedC F G (List.replicate n .free) c := fun h => by
  obtain ⟨i, y, h1, h2, _⟩ := used_at.1 h
  rw [List.getElem?_replicate] at h1
  split at h1
  · cases h1; cases h2
  · cases h1

theorem no_pg {n i : Nat} {g : Pg} {P : Prop} (h : (List.replicate n Pg.free)[i]? = some g) (hg : g ≠ Pg.free) : P := by
  rw [List.getElem?_replicate] at h
  split at h
  · injection h with h; exact absurd h.symm hg
  · cases h

theorem fresh_cyc {c : Cfg} (hm : c.May) (pt : Pts) : Cyc (Co.fresh c pt) (Hp.none_ c.ha) := by
  have hz : ∀ p ∈ zeros c.ha, p = 0 := fun p hp => (List.mem_replicate.1 hp).2
  have w := hm.words
  have n0 := hm.nu0
  have n1 := hm.nu1
  have p0 := hm.ps0
  have z0 := hm.pz0
  exact
    { sim :=
        { laid :=
            { lies := ⟨fun p o ho => (by cases ho), fun p o ho => (by cases ho), fun p q o v ho => (by cases ho)⟩
              g0 := by show 1 ≤ c.pz; omega
              wf := ⟨fun i s us h => no_pg h (by simp), fun i k h => no_pg h (by simp), fun j h => no_pg h (by simp)⟩
              n0 := by show 0 ≤ c.nu; omega
              n1 := by show c.nu ≤ 1048576; omega
              len := by
                show 1 + 2 * c.nu + ((List.replicate c.ps.toNat Pg.free).length : Int) * c.pz ≤ ((List.replicate c.words.toNat (0 : Int)).length : Int)
                rw [List.length_replicate, List.length_replicate]
                have e : ((c.ps.toNat : Nat) : Int) = c.ps := by omega
                rw [e]
                unfold Cfg.words
                omega
              hf := Row.nil
              he := Row.nil
              le := by show (0 : Int) ≤ c.nu; omega
              room := by show (0 : Int) + ((Hp.none_ c.ha).rest : Int) ≤ c.nu; rw [show (Hp.none_ c.ha).rest = 0 from rfl]; simp; omega
              old := fun p => ⟨fun e => (by cases e), fun ⟨_, h, _⟩ => absurd h no_used⟩
              fit := fun _ h => absurd h no_used }
          hs := rfl
          row := rfl
          cop := rfl
          par := ⟨Int.le_refl _, by show (0 : Int) ≤ 1; decide⟩
          few := by show 2 * (((0 : Nat) : Int) + ((0 : Nat) : Int)) ≤ c.nu; omega
          pl := by show ((List.replicate c.ps.toNat Pg.free).length : Int) = c.ps; rw [List.length_replicate]; omega
          beg := fun p hp => by rcases hp with e | e <;> cases e
          X := fun _ h => h.elim
          Y := fun _ h => h.elim }
      inv :=
        { dom := fun p => ⟨fun ⟨_, h⟩ => (by cases h), fun h => (by rcases h with h | h | h <;> cases h)⟩
          pos := fun p h => by rcases h with h | h | h <;> cases h
          fe := fun _ h => by cases h
          fo := fun _ h => by cases h
          eo := fun _ h => by cases h
          nf := List.nodup_nil
          ne := List.nodup_nil
          hs := fun p hp => .inl (hz p hp)
          ref := fun _ _ h => by cases h
          old := fun _ _ h => by cases h
          noted := fun _ _ h => by cases h
          self := fun _ _ h => by cases h
          way := fun _ _ h => by cases h
          cur := fun p h => by simp [Hp.none_] at h
          kl := Nat.le_refl _
          row := fun _ h => by cases h
          xo := fun _ h => by rcases h with h | h <;> exact h.elim }
      gx := rfl
      ph := rfl
      D := fun _ h => h
      hnd := fun _ _ h => by cases h
      scan := fun e => by cases e
      idle := fun _ => ⟨rfl, fun _ h => h, rfl, rfl, by
        refine List.count_eq_zero.2 fun h => ?_
        have h := List.eq_of_mem_replicate h
        cases h⟩ }
end Gc
end Go.Proofs.YthmhehehomieiaaGreat

/- What a cycle leaves, when nothing is done between: just what is held. Of lists alone. -/
namespace Go.Proofs.YthmhehehomieiaaGreat
namespace Gc

/-- All that stands in the half that is filled is held; nothing is old, and nothing will be. -/
structure Tight (s : Co) (A : Hp) (G : Gph) (f : Int → Int) : Prop where
  rep : Rep A G f
  tight : ∀ q ∈ A.F, ∃ n, G.Held n ∧ f n = q
  old : A.O = []
  ages : ∀ p ∈ A.E, ∀ o, A.ob p = some o → ageI o.age < s.cf.tn

section
variable {s t : Co} {A B : Hp} {G : Gph} {x : Int}

theorem MoveD.tight {p r : Int} (h : MoveD s A p t B r) (i : Inv x A) (why : p ∈ A.hs ∨ ∃ u v, u ∉ A.E ∧ A.ob u = some v ∧ p ∈ v.rs) {f : Int → Int} (g : Tight s A G f) : ∃ f', Tight t B G f' := by
  cases h with
  | stay _ => exact ⟨f, g⟩
  | gone _ _ _ => exact ⟨f, g⟩
  | old e ho _ _ _ ht _ => exact absurd (g.ages p e _ ho) (by omega)
  | @young o e ho hw hq q0 _ =>
    have p0 := i.ob_pos ho
    have now : A.now p = p := by rw [Hp.now_yes e ho, hw]
    have held : ∃ n, G.Held n ∧ f n = p := by
      rcases why with h | ⟨u, v, hu, hv, hr⟩
      · have : p ∈ A.hs.map A.now := List.mem_map.2 ⟨p, h, now⟩
        rw [g.rep.hs] at this
        obtain ⟨n, hn, e⟩ := List.mem_map.1 this
        exact ⟨n, .root hn (fun z => by rw [z, g.rep.z] at e; omega), e⟩
      · have uF : u ∈ A.F := by
          rcases (i.dom u).1 ⟨v, hv⟩ with z | z | z
          · exact z
          · exact absurd z hu
          · rw [g.old] at z; cases z
        obtain ⟨m, hm, em⟩ := g.tight u uF
        obtain ⟨d, o1, h1, h2, h3, h4, h5⟩ := g.rep.node m hm
        rw [em, hv] at h2
        cases h2
        have : p ∈ v.rs.map A.now := List.mem_map.2 ⟨p, hr, now⟩
        rw [h4] at this
        obtain ⟨n, hn, e⟩ := List.mem_map.1 this
        exact ⟨n, .ref hm h1 hn (fun z => by rw [z, g.rep.z] at e; omega), e⟩
    obtain ⟨n, hn, en⟩ := held
    have pF : p ∉ A.F := fun z => i.fe p z e
    refine ⟨_, g.rep.left i e ho hw hq q0, fun q' hq' => ?_, g.old, fun p' hp' o' ho' => ?_⟩
    · rcases List.mem_append.1 (show q' ∈ A.F ++ [hAt s.cf.nu 1 s.yn + s.yu] from hq') with z | z
      · obtain ⟨m, hm, em⟩ := g.tight q' z
        refine ⟨m, hm, ?_⟩
        show (if f m = p then _ else f m) = q'
        rw [if_neg (by rw [em]; rintro rfl; exact pF z)]
        exact em
      · refine ⟨n, hn, ?_⟩
        show (if f n = p then _ else f n) = q'
        rw [if_pos en, List.mem_singleton.1 z]
    · have hp' : p' ∈ A.E := hp'
      have nq : p' ≠ hAt s.cf.nu 1 s.yn + s.yu := fun z => by
        obtain ⟨_, h⟩ := (i.dom p').2 (.inr (.inl hp'))
        rw [z, hq] at h; cases h
      have ho' : upd (upd A.ob p { o with way := hAt s.cf.nu 1 s.yn + s.yu }) (hAt s.cf.nu 1 s.yn + s.yu) _ p' = some o' := ho'
      rw [upd_ne nq] at ho'
      show ageI o'.age < s.cf.tn
      by_cases z : p' = p
      · subst z
        rw [upd_self] at ho'
        cases ho'
        exact g.ages _ e o ho
      · rw [upd_ne z] at ho'
        exact g.ages _ hp' o' ho'

theorem Prims.tight (h : Prims s A t B) : (∃ f, Tight s A G f) → ∃ f, Tight t B G f := by
  induction h with
  | refl => exact id
  | trans _ _ h1 h2 => exact fun g => h2 (h1 g)
  | move i why m =>
    rintro ⟨f, g⟩
    exact m.tight i why g
  | @put s A p o o' vs hE ho hw ha hs hr =>
    rintro ⟨f, g⟩
    refine ⟨f, g.rep.put ho hw hr hs, g.tight, g.old, fun p' hp' v hv => ?_⟩
    have hv : upd A.ob p o' p' = some v := hv
    rw [upd_ne (by rintro rfl; exact hE hp')] at hv
    exact g.ages p' hp' v hv
  | @side s t A B hcf _ _ h1 h2 h3 h4 h5 =>
    rintro ⟨f, g⟩
    have now : B.now = A.now := funext fun y => by unfold Hp.now; rw [h1, h3]
    refine ⟨f, ⟨g.rep.z, by rw [now, h5]; exact g.rep.hs, fun n hn => by rw [now, h1]; exact g.rep.node n hn, g.rep.inj⟩, fun q hq => g.tight q (by rw [← h2]; exact hq), by rw [h4]; exact g.old, fun p hp o ho => ?_⟩
    rw [hcf]
    exact g.ages p (by rw [← h3]; exact hp) o (by rw [← h1]; exact ho)

/-- What is held of a graph without old objects, as it stands ahead of a cycle. -/
theorem tight_begun (c : Cyc s A) (hm : s.mv = false) (hO : A.O = []) (ages : ∀ p ∈ A.F, ∀ o, A.ob p = some o → ageI o.age < s.cf.tn) : Tight (Co.begun s) A.start A.gph id := by
  obtain ⟨hE, _⟩ := c.idle hm
  exact ⟨(Inv.own c.inv).start c.inv hE, fun q hq => (by cases hq), hO, fun p hp o ho => ages p hp o ho⟩

/-- How much a node takes. -/
def Gph.szn (G : Gph) (n : Int) : Nat := (G.dat n).1.length + (G.dat n).2.length + 2

theorem perm_sum {l m : List Nat} (h : l.Perm m) : l.sum = m.sum := h.sum_nat

/-- Behind a cycle there is just what is held. -/
theorem Tight.words {f : Int → Int} (g : Tight s A G f) (c : Cyc s A) (hm : s.mv = false) {R : List Int} (hR : R.Nodup) (hG : ∀ n, n ∈ R ↔ G.Held n) : s.yu = ((R.map G.szn).sum : Nat) ∧ s.yv = 0 := by
  obtain ⟨hE, _⟩ := c.idle hm
  have u := c.sim.laid.hf.use
  have v := c.sim.laid.he.use
  rw [hE] at v
  have inF : ∀ n, G.Held n → f n ∈ A.F := fun n hn => by
    obtain ⟨d, o, _, h2, _⟩ := g.rep.node n hn
    rcases (c.inv.dom _).1 ⟨o, h2⟩ with z | z | z
    · exact z
    · rw [hE] at z; cases z
    · rw [g.old] at z; cases z
  have nd : (R.map f).Nodup := List.pairwise_map.2 (hR.imp_of_mem fun {m n} hm hn ne e => ne (g.rep.inj m n ((hG m).1 hm) ((hG n).1 hn) e))
  have pm : (R.map f).Perm A.F := by
    refine (List.perm_ext_iff_of_nodup nd c.inv.nf).2 fun q => ⟨fun h => ?_, fun h => ?_⟩
    · obtain ⟨n, hn, rfl⟩ := List.mem_map.1 h
      exact inF n ((hG n).1 hn)
    · obtain ⟨n, hn, rfl⟩ := g.tight q h
      exact List.mem_map.2 ⟨n, (hG n).2 hn, rfl⟩
  have es : A.sum A.F = (R.map G.szn).sum := by
    unfold Hp.sum
    rw [← perm_sum (pm.map A.szf), List.map_map]
    congr 1
    refine List.map_congr_left fun n hn => ?_
    obtain ⟨d, o, h1, h2, _, h4, h5⟩ := g.rep.node n ((hG n).1 hn)
    show A.szf (f n) = G.szn n
    rw [Hp.szf_of h2]
    have hl : o.rs.length = d.1.length := by have := congrArg List.length h4; simpa using this
    unfold Gph.szn Gph.dat Ob.sz Ob.n
    rw [h1, hl, h5]
    rfl
  exact ⟨by rw [u, es], by rw [v]; rfl⟩
end
end Gc
end Go.Proofs.YthmhehehomieiaaGreat

/- Entries' answers, whatever stands in a heap. -/
namespace Go.Proofs.YthmhehehomieiaaGreat
namespace Gc
open Go.RowKit

section
variable {s s' : Co} {A B : Hp} {E : Int}

theorem Ent.make_yes {a p q : Int} (h : Ent s A (.make a p q) E s' B) (e : s.has a = true) (p0 : 0 ≤ p) (q0 : 0 ≤ q) (l : p ≤ s.cf.lg - q) (r : p + q + 2 ≤ s.cf.nu - s.yu - A.rest) :
    E = 0 ∧ s' = s.made a p q ∧ B = { A.make s.next (s.newOb p.toNat q.toNat) with hs := s.hs.set a.toNat s.next } := by
  cases h with
  | make3 h => rw [e] at h; cases h
  | make6 _ h => omega
  | make7 _ _ _ _ h => exact absurd r h
  | make _ _ _ _ _ => exact ⟨rfl, rfl, rfl⟩
theorem Ent.make_room {a p q : Int} (h : Ent s A (.make a p q) E s' B) (e : s.has a = true) (p0 : 0 ≤ p) (q0 : 0 ≤ q) (l : p ≤ s.cf.lg - q) (r : ¬ p + q + 2 ≤ s.cf.nu - s.yu - A.rest) : E = 7 ∧ s' = s ∧ B = A := by
  cases h with
  | make3 h => rw [e] at h; cases h
  | make6 _ h => omega
  | make7 _ _ _ _ h => exact ⟨rfl, rfl, rfl⟩
  | make _ _ _ _ h => exact absurd h r
theorem Ent.clear_yes {h : Int} (n : Ent s A (.clear h) E s' B) (e : s.has h = true) : E = 0 ∧ s' = s.put (s.hs.set h.toNat 0) ∧ B = { A with hs := s.hs.set h.toNat 0 } := by
  cases n with
  | clear3 h => rw [e] at h; cases h
  | clear _ => exact ⟨rfl, rfl, rfl⟩
theorem Ent.write_yes {h n v : Int} {o : Gc.Ob} (m : Ent s A (.write h n v) E s' B) (e : s.has h = true) (a0 : s.at_ h ≠ 0) (ho : A.ob (s.at_ h) = some o) (hb : scaB (o.n : Nat) o.rs.length n = true) :
    E = 0 ∧ s' = s.wrote (s.ws.set ((s.at_ h).toNat + 2 + (o.rs.length + n.toNat)) v) ∧ B = A.put (s.at_ h) { o with ss := o.ss.set n.toNat v } := by
  cases m with
  | write3 h => rw [e] at h; cases h
  | write4 _ h => exact absurd h a0
  | write5 _ h1 h2 => rw [ho] at h1; cases h1; rw [hb] at h2; cases h2
  | write _ h1 _ => rw [ho] at h1; cases h1; exact ⟨rfl, rfl, rfl⟩
theorem Ent.set_yes {h n f : Int} {o : Gc.Ob} (m : Ent s A (.set h n f) E s' B) (e : s.has h = true) (a0 : s.at_ h ≠ 0) (ho : A.ob (s.at_ h) = some o) (e1 : s.has f = true) (hb : refB (o.rs.length : Int) n = true) (z : s.at_ h ∉ A.O) :
    E = 0 ∧ s' = s.wrote (s.ws.set ((s.at_ h).toNat + 2 + n.toNat) (s.at_ f)) ∧ B = A.put (s.at_ h) { o with rs := o.rs.set n.toNat (s.at_ f) } := by
  cases m with
  | set3 h => rw [e] at h; cases h
  | set4 _ h => exact absurd h a0
  | setTo _ _ h => rw [e1] at h; cases h
  | set5 _ h1 _ h2 => rw [ho] at h1; cases h1; rw [hb] at h2; cases h2
  | set _ h1 _ _ d =>
    rw [ho] at h1; cases h1
    cases d with
    | plain _ => exact ⟨rfl, rfl, rfl⟩
    | note hO _ _ => exact absurd hO z
theorem Ent.get_yes {d h n q : Int} {o : Gc.Ob} (m : Ent s A (.get d h n) E s' B) (e : s.has h = true) (a0 : s.at_ h ≠ 0) (ho : A.ob (s.at_ h) = some o) (e1 : s.has d = true) (n0 : 0 ≤ n) (hq : o.rs[n.toNat]? = some q) (hE : A.E = []) :
    E = 0 ∧ s' = s.put (s.hs.set d.toNat q) ∧ B = { A with hs := s.hs.set d.toNat q } := by
  have hb : refB (o.rs.length : Int) n = true := by
    have := (List.getElem?_eq_some_iff.1 hq).1
    rw [refB_iff]; omega
  cases m with
  | get3 h => rw [e] at h; cases h
  | get4 _ h => exact absurd h a0
  | getTo _ _ h => rw [e1] at h; cases h
  | get5 _ h1 _ h2 => rw [ho] at h1; cases h1; rw [hb] at h2; cases h2
  | get _ h1 _ _ hq' d =>
    rw [ho] at h1; cases h1
    rw [hq] at hq'; cases hq'
    cases d with
    | stay _ => exact ⟨rfl, rfl, rfl⟩
    | gone h => rw [hE] at h; cases h
    | old h => rw [hE] at h; cases h
    | young h => rw [hE] at h; cases h
end

section
variable {A : Hp} {s : Co} {w : World} {b : Nat} {S : Nat → Prop}

theorem read_cyc (hC : Cr w b S s) (c : Cyc s A) {h n v : Int} {o : Gc.Ob} (e : s.has h = true) (ho : A.ob (s.at_ h) = some o) (n0 : 0 ≤ n) (hv : o.ss[n.toNat]? = some v) :
    Calls Tryz.prog 37 #[ptr b, .int .i64 h, .int .i64 n] w fun e w' => e = .returned (.tuple #[.int .u64 v, .int .i64 0]) ∧ CoR w b S s w' := by
  have p0 := c.inv.ob_pos ho
  obtain ⟨o', ho', ob⟩ := c.ob e (by omega)
  rw [ho] at ho'; cases ho'
  have at_ := c.sim.laid.lies.at_ _ o ho
  have hl := (List.getElem?_eq_some_iff.1 hv).1
  have en : o.n = o.rs.length + o.ss.length := rfl
  refine read_yes hC ob n v (by rw [scaB_iff]; omega) ?_
  have := at_.body (o.rs.length + n.toNat) v (by rw [List.getElem?_append_right (by omega), Nat.add_sub_cancel_left]; exact hv)
  rw [show (s.at_ h + (2 + ((o.rs.length : Int) + n))).toNat = (s.at_ h).toNat + 2 + (o.rs.length + n.toNat) by omega]
  exact this

/-- What a handle's object is like. -/
def shE (s : Co) (A : Hp) (h : Int) : Int × Int × Int := match A.ob (s.at_ h) with
  | some o => (o.rs.length, o.ss.length, 0)
  | none => (0, 0, 4)
theorem shape_cyc (hC : Cr w b S s) (c : Cyc s A) {h : Int} (e : s.has h = true) :
    Calls Tryz.prog 34 #[ptr b, .int .i64 h] w fun e w' => e = .returned (.tuple #[.int .i64 (shE s A h).1, .int .i64 (shE s A h).2.1, .int .i64 (shE s A h).2.2]) ∧ CoR w b S s w' := by
  by_cases z : s.at_ h = 0
  · have no : A.ob (s.at_ h) = none := by
      cases q : A.ob (s.at_ h) with
      | none => rfl
      | some o => have := c.inv.ob_pos q; omega
    unfold shE
    rw [no]
    exact (shape_wrong h 4 w (wrong_nil hC e z)).mono fun _ w' ⟨he, hb⟩ => ⟨he, hC.stay hb⟩
  · obtain ⟨o, ho, ob⟩ := c.ob e z
    unfold shE
    rw [ho]
    refine (shape_yes hC ob).mono fun _ w' ⟨he, hb⟩ => ⟨?_, hb⟩
    rw [he]
    have en : (o.n : Int) = o.rs.length + o.ss.length := by unfold Ob.n; omega
    rw [show ((o.n : Nat) : Int) - (o.rs.length : Int) = o.ss.length by omega]
end
end Gc
end Go.Proofs.YthmhehehomieiaaGreat

/- The contracts of Stats. -/
namespace Go.Proofs.YthmhehehomieiaaGreat
open Go.RowKit

abbrev stV8 (a c d e f y o r : Int) : Value := .agg #[.int .i64 a, .int .i64 c, .int .i64 d, .int .i64 e, .int .i64 f, .int .i64 y, .int .i64 o, .int .i64 r]
abbrev stL8 (a c d e f y o r : Int) : Array Value := #[.int .i64 a, .int .i64 c, .int .i64 d, .int .i64 e, .int .i64 f, .int .i64 y, .int .i64 o, .int .i64 r]
abbrev stO8 (a c d e f y o r : Int) : Obj := .cells (stL8 a c d e f y o r) 31

set_option maxHeartbeats 1000000 in
theorem stats_none (w : World) : Calls Tryz.prog 20 #[.pointer Option.none] w fun e w' => e = .returned (stV8 0 0 0 0 0 0 0 0) ∧ Below w.heap.size w w' := by
  go_enter Tryz.func20, Tryz.ntmps20
  go_wp2
  exact bodyPost_ret (v := stV8 0 0 0 0 0 0 0 0) (by simp [results, Tryz.results20, go_sem]) rfl ⟨rfl, (Below.refl _ _).alloc (Nat.le_refl _) _⟩

theorem Blk.eight {w : World} {b : Nat} {t : TypeId} {v0 v1 v2 v3 v4 v5 v6 v7 : Value} (h : Blk w b #[v0, v1, v2, v3, v4, v5, v6, v7] t) :
    w.cell? ⟨b, 0, none⟩ = some v0 ∧ w.cell? ⟨b, 1, none⟩ = some v1 ∧ w.cell? ⟨b, 2, none⟩ = some v2 ∧ w.cell? ⟨b, 3, none⟩ = some v3 ∧ w.cell? ⟨b, 4, none⟩ = some v4 ∧ w.cell? ⟨b, 5, none⟩ = some v5 ∧ w.cell? ⟨b, 6, none⟩ = some v6 ∧ w.cell? ⟨b, 7, none⟩ = some v7 ∧
    (∀ i, w.frozen? ⟨b, i, none⟩ = false) := ⟨h.cell 0, h.cell 1, h.cell 2, h.cell 3, h.cell 4, h.cell 5, h.cell 6, h.cell 7, h.frozen⟩

theorem Blk.set8 {w1 : World} {k : Nat} {t : TypeId} {u0 u1 u2 u3 u4 u5 u6 u7 : Value} (h : Blk w1 k #[u0, u1, u2, u3, u4, u5, u6, u7] t) (v0 v1 v2 v3 v4 v5 v6 v7 : Value) :
    Blk ((((((((w1.setCell ⟨k, 0, none⟩ v0).setCell ⟨k, 1, none⟩ v1).setCell ⟨k, 2, none⟩ v2).setCell ⟨k, 3, none⟩ v3).setCell ⟨k, 4, none⟩ v4).setCell ⟨k, 5, none⟩ v5).setCell ⟨k, 6, none⟩ v6).setCell ⟨k, 7, none⟩ v7) k #[v0, v1, v2, v3, v4, v5, v6, v7] t := by
  have e := (((((((h.set_ 0 v0).set_ 1 v1).set_ 2 v2).set_ 3 v3).set_ 4 v4).set_ 5 v5).set_ 6 v6).set_ 7 v7
  simpa only [List.setIfInBounds_toArray, List.set_cons_zero, List.set_cons_succ] using e

theorem Frm.set8 {T : Nat → Prop} {w w' : World} (f : Frm T w w') (r : Nat) (hr : T r) (v0 v1 v2 v3 v4 v5 v6 v7 : Value) :
    Frm T w ((((((((w'.setCell ⟨r, 0, none⟩ v0).setCell ⟨r, 1, none⟩ v1).setCell ⟨r, 2, none⟩ v2).setCell ⟨r, 3, none⟩ v3).setCell ⟨r, 4, none⟩ v4).setCell ⟨r, 5, none⟩ v5).setCell ⟨r, 6, none⟩ v6).setCell ⟨r, 7, none⟩ v7) :=
  (f.set7 r hr v0 v1 v2 v3 v4 v5 v6).setCell (p := ⟨r, 7, none⟩) (fun _ => hr) _

section
variable {w : World} {b : Nat} {S : Nat → Prop} {s : Co}

/-- How many words of the pages are used. -/
def Co.used (s : Co) : Int := usedI (cellsP (1 + 2 * s.cf.nu) s.cf.pz s.pgs)

theorem Cr.oldUsed (hC : Cr w b S s) : ∃ o : Nat, w.cell? ⟨b, 15, Option.none⟩ = some (.pointer (some ⟨o, 0, Option.none⟩)) ∧ Calls Tryz.prog 69 #[.pointer (some ⟨o, 0, Option.none⟩)] w fun e w' => e = .returned (.int .i64 s.used) ∧ Below w.heap.size w w' := by
  obtain ⟨P, own, h0, rfl, rfl⟩ := hC
  obtain ⟨pb, ub, hp, _⟩ := h0.prt 3
  exact ⟨P.o, h0.cell 15, mUsed_any _ _ _ _ _ _ _ w hp⟩

def StV (y b k : Nat) (u v : Int) : Nat → Value → Prop
  | 0 => fun x => x = ptr b
  | 1 => fun x => x = ptr b
  | 2 => fun x => x = .pointer (some ⟨b, 14, Option.none⟩)
  | 3 => fun x => x = bpP y
  | 4 => fun x => x = .int .i64 u
  | 5 => fun x => x = ptr b
  | 6 => fun x => x = ptr b
  | 7 => fun x => x = .pointer (some ⟨b, 14, Option.none⟩)
  | 8 => fun x => x = bpP y
  | 9 => fun x => x = .int .i64 v
  | 10 => fun x => x = .int .i64 (u + v)
  | 11 => fun x => x = .pointer (some ⟨k, 5, Option.none⟩)
  | _ => fun _ => True
theorem stV_some (y b k : Nat) (u v : Int) : ∀ i, ∃ x, StV y b k u v i x
  | 0 => ⟨_, rfl⟩
  | 1 => ⟨_, rfl⟩
  | 2 => ⟨_, rfl⟩
  | 3 => ⟨_, rfl⟩
  | 4 => ⟨_, rfl⟩
  | 5 => ⟨_, rfl⟩
  | 6 => ⟨_, rfl⟩
  | 7 => ⟨_, rfl⟩
  | 8 => ⟨_, rfl⟩
  | 9 => ⟨_, rfl⟩
  | 10 => ⟨_, rfl⟩
  | 11 => ⟨_, rfl⟩
  | _ + 12 => ⟨undef, trivial⟩

attribute [local go_sem] madeUpon makes

set_option maxHeartbeats 8000000 in
set_option maxRecDepth 100000 in
theorem stats_any (hC : Cr w b S s) (u0 : 0 ≤ s.used) (u1 : s.used ≤ 16384) :
    Calls Tryz.prog 20 #[ptr b] w fun e w' => e = .returned (stV8 s.d.al s.d.wd s.d.pr s.d.mi s.d.ma (s.yu + s.yv) s.used (s.cf.ps * s.cf.pz - s.used)) ∧ Below w.heap.size w w' := by
  have m0 := hC.may.words
  have n1 := hC.may.nu1
  obtain ⟨y, _, hy⟩ := hC.half
  have hw1 : IntKind.i64.wrap (s.yu + s.yv) = s.yu + s.yv := wrap_in _ (by have := hy.u0; have := hy.v0; omega) (by have := hy.u1; have := hy.v1; have := hy.w1; omega)
  have hw2 : IntKind.i64.wrap (s.cf.ps * s.cf.pz) = s.cf.ps * s.cf.pz := wrap_in _ (by omega) (by omega)
  have hw3 : IntKind.i64.wrap (s.cf.ps * s.cf.pz - s.used) = s.cf.ps * s.cf.pz - s.used := wrap_in _ (by omega) (by omega)
  have W1 := Lib.hid hw1
  have W2 := Lib.hid hw2
  have W3 := Lib.hid hw3
  have HC := Lib.hid hC
  have HC0 := Lib.hid hC
  have k := hC.box (stO8 0 0 0 0 0 0 0 0)
  obtain ⟨P, own, h0, _, hc, _⟩ := k.cell
  have c26 := hc 26
  have c27 := hc 27
  have c28 := hc 28
  have c29 := hc 29
  have c30 := hc 30
  have c31 := hc 31
  have c32 := hc 32
  have c33 := hc 33
  simp only [coL, List.getElem?_toArray, List.getElem?_cons_succ, List.getElem?_cons_zero] at c26 c27 c28 c29 c30 c31 c32 c33
  have SL := Lib.hid (fun k hk => hC.lt (k := k) hk)
  clear hC k h0 hc hy m0 n1 u0 u1 hw1 hw2 hw3
  go_enter Tryz.func20, Tryz.ntmps20
  go_wp2_with fail
  clear c26 c27 c28 c29 c30 c31 c32 c33
  have key : Hid (Cr ((w.alloc (stO8 0 0 0 0 0 0 0 0)).alloc (stO8 s.d.al s.d.wd s.d.pr s.d.mi s.d.ma s.d.yo s.d.ol s.d.fr)) b S s ∧ Blk ((w.alloc (stO8 0 0 0 0 0 0 0 0)).alloc (stO8 s.d.al s.d.wd s.d.pr s.d.mi s.d.ma s.d.yo s.d.ol s.d.fr)) w.heap.size (stL8 0 0 0 0 0 0 0 0) 31 ∧
      Blk ((w.alloc (stO8 0 0 0 0 0 0 0 0)).alloc (stO8 s.d.al s.d.wd s.d.pr s.d.mi s.d.ma s.d.yo s.d.ol s.d.fr)) (w.heap.size + 1) (stL8 s.d.al s.d.wd s.d.pr s.d.mi s.d.ma s.d.yo s.d.ol s.d.fr) 31 ∧
      Below w.heap.size w ((w.alloc (stO8 0 0 0 0 0 0 0 0)).alloc (stO8 s.d.al s.d.wd s.d.pr s.d.mi s.d.ma s.d.yo s.d.ol s.d.fr)) ∧ w.heap.size + 1 < ((w.alloc (stO8 0 0 0 0 0 0 0 0)).alloc (stO8 s.d.al s.d.wd s.d.pr s.d.mi s.d.ma s.d.yo s.d.ol s.d.fr)).heap.size) :=
    Lib.hid ⟨(HC.out.box _).box _, (Blk.new w _ _).alloc _, by simpa using Blk.new (w.alloc (stO8 0 0 0 0 0 0 0 0)) (stL8 s.d.al s.d.wd s.d.pr s.d.mi s.d.ma s.d.yo s.d.ol s.d.fr) 31, ((Below.refl _ w).alloc (Nat.le_refl _) _).alloc (by simp) _, by simp⟩
  generalize (w.alloc (stO8 0 0 0 0 0 0 0 0)).alloc (stO8 s.d.al s.d.wd s.d.pr s.d.mi s.d.ma s.d.yo s.d.ol s.d.fr) = w2 at key ⊢
  have HC := Lib.hid key.out.1
  have X2 := Lib.hid key.out.2.1
  have X3 := Lib.hid key.out.2.2.1
  have B2 := Lib.hid key.out.2.2.2
  clear key
  obtain ⟨y, c14, hy⟩ := HC.out.half
  have HU := Lib.hid (fun (w' : World) (f : Below w2.heap.size w2 w') => (And.intro ((f.cell (p := ⟨b, 14, Option.none⟩) (by obtain ⟨_, _, _, _, _, _, l⟩ := HC.out.cell; exact l)).trans c14) (And.intro (bUsed_any y _ _ _ _ _ w' (hy.keep f)) (bLeft_any y _ _ _ _ _ w' (hy.keep f)))))
  have hw1 := W1.out
  clear hy c14
  refine region_made_tail (fun _ w' => Below w2.heap.size w2 w') (StV y b (w.heap.size + 1) s.yu s.yv) 12 (by kernel_rfl) (by kernel_rfl) (by kernel_rfl) (stV_some _ _ _ _ _) (below_drew w2) ?_
  simp only [List.take_succ_cons, List.take_zero, List.drop_succ_cons, List.drop_zero]
  refine wpMade_step ?_ ?_
  · intro m w' hg
    go_simp
    first | exact ⟨rfl, hg⟩ | exact rfl
  intro K hK
  rintro _ rfl
  go_simp
  refine hK _ _ ?_
  clear hK K
  refine wpMade_step ?_ ?_
  · intro m w' hg
    go_simp
    first | exact ⟨rfl, hg⟩ | exact rfl
  intro K hK
  rintro _ rfl
  go_simp
  refine hK _ _ ?_
  clear hK K
  refine wpMade_step ?_ ?_
  · intro m w' hg
    go_simp
    first | exact ⟨rfl, hg⟩ | exact rfl
  intro K hK
  rintro _ rfl
  go_simp
  refine hK _ _ ?_
  clear hK K
  refine wpMade_step ?_ ?_
  · intro m w' hg
    have q := (HU.out w' hg).1
    go_simp
    first | exact ⟨rfl, hg⟩ | exact rfl
  intro K hK
  rintro _ rfl
  go_simp
  refine hK _ _ ?_
  clear hK K
  refine wpMade_step ?_ ?_
  · intro m w' hg
    go_simp
    exact (HU.out w' hg).2.1.mono fun e w3 ⟨he, b3⟩ => ⟨_, he, rfl, below_trans hg b3⟩
  intro K hK
  rintro _ rfl
  go_simp
  refine hK _ _ ?_
  clear hK K
  refine wpMade_step ?_ ?_
  · intro m w' hg
    go_simp
    first | exact ⟨rfl, hg⟩ | exact rfl
  intro K hK
  rintro _ rfl
  go_simp
  refine hK _ _ ?_
  clear hK K
  refine wpMade_step ?_ ?_
  · intro m w' hg
    go_simp
    first | exact ⟨rfl, hg⟩ | exact rfl
  intro K hK
  rintro _ rfl
  go_simp
  refine hK _ _ ?_
  clear hK K
  refine wpMade_step ?_ ?_
  · intro m w' hg
    go_simp
    first | exact ⟨rfl, hg⟩ | exact rfl
  intro K hK
  rintro _ rfl
  go_simp
  refine hK _ _ ?_
  clear hK K
  refine wpMade_step ?_ ?_
  · intro m w' hg
    have q := (HU.out w' hg).1
    go_simp
    first | exact ⟨rfl, hg⟩ | exact rfl
  intro K hK
  rintro _ rfl
  go_simp
  refine hK _ _ ?_
  clear hK K
  refine wpMade_step ?_ ?_
  · intro m w' hg
    go_simp
    exact (HU.out w' hg).2.2.mono fun e w3 ⟨he, b3⟩ => ⟨_, he, rfl, below_trans hg b3⟩
  intro K hK
  rintro _ rfl
  go_simp
  refine hK _ _ ?_
  clear hK K
  refine wpMade_step ?_ ?_
  · intro m w' hg
    go_simp
    first | exact ⟨rfl, hg⟩ | exact rfl
  intro K hK
  rintro _ rfl
  go_simp
  refine hK _ _ ?_
  clear hK K
  refine wpMade_step ?_ ?_
  · intro m w' hg
    go_simp
    first | exact ⟨rfl, hg⟩ | exact rfl
  intro K hK
  rintro _ rfl
  go_simp
  refine hK _ _ ?_
  clear hK K
  refine wpMade_nil ?_
  intro w3 hg
  clear hw1
  obtain ⟨d0, d1, d2, d3, d4, d5, d6, d7, df⟩ := (X3.out.keep hg).eight
  have K3 := Lib.hid (HC.out.keep hg)
  have Y2 := Lib.hid (X2.out.keep hg)
  have Y3 := Lib.hid (X3.out.keep hg)
  have B3 := Lib.hid (below_trans B2.out.1 hg)
  have f4 : Frm (fun k => k = w.heap.size + 1) w3 (w3.setCell ⟨w.heap.size + 1, 5, Option.none⟩ (.int .i64 (s.yu + s.yv))) := Frm.setCell (S := fun k => k = w.heap.size + 1) (Frm.refl _ _) (p := ⟨w.heap.size + 1, 5, Option.none⟩) (fun _ => rfl) _
  have K4 := K3.out.frm f4 (fun k hk e => by have := SL.out k hk; omega)
  have Z2 := Lib.hid (Y2.out.frm f4 (by omega))
  have Z3 := Lib.hid (Y3.out.set_ 5 (.int .i64 (s.yu + s.yv)))
  have B4 := Lib.hid (Below.frm B3.out f4 B3.out.size (fun k hk e => by omega))
  obtain ⟨o, c15, hu⟩ := K4.oldUsed
  have e15 : w3.cell? ⟨b, 15, Option.none⟩ = some (.pointer (some ⟨o, 0, Option.none⟩)) := by
    have q := c15
    rwa [World.cell?_setCell_other _ _ _ _ (by simp)] at q
  have HU2 := Lib.hid hu
  have KK := Lib.hid K4
  clear hg HU HC X2 X3 B2 K4 hu c15 f4 K3 Y2 Y3 B3
  go_wp2_with fail
  refine HU2.out.mono ?_
  rintro e w5 ⟨rfl, b5⟩
  have Z3' := Z3.out.keep b5
  simp only [List.setIfInBounds_toArray, List.set_cons_zero, List.set_cons_succ] at Z3'
  have T2 := Lib.hid (Z2.out.keep b5)
  have T3 := Lib.hid Z3'
  have B5 := Lib.hid (below_trans B4.out b5)
  have K5 := KK.out.keep b5
  obtain ⟨P5, own5, h5, _, hc5, _, lb⟩ := K5.cell
  have c2 : w5.cell? ⟨b, 2, Option.none⟩ = some (.int .i64 s.cf.ps) := hc5 2
  have c3 : w5.cell? ⟨b, 3, Option.none⟩ = some (.int .i64 s.cf.pz) := hc5 3
  obtain ⟨d0, d1, d2, d3, d4, d5, d6, d7, df⟩ := Z3'.eight
  have l3 := Z3'.lt
  have l2 := T2.out.lt
  clear h5 hc5 K5 Z3' b5 Z2 Z3 B4 KK HU2 e15
  have hw2 := W2.out
  have hw3 := W3.out
  go_wp2
  go_region
  all_goals
    clear d0 d1 d2 d3 d4 d5 d6 d7 df c2 c3 hw2 hw3
    refine then_world (fun W => Blk W (w.heap.size + 1) (stL8 s.d.al s.d.wd s.d.pr s.d.mi s.d.ma (s.yu + s.yv) s.used (s.cf.ps * s.cf.pz - s.used)) 31 ∧ Frm (fun k => k = w.heap.size + 1) w5 W) ⟨?_, ?_⟩ ?_
    · have q := (T3.out.set_ 6 (.int .i64 s.used)).set_ 7 (.int .i64 (s.cf.ps * s.cf.pz - s.used))
      simp only [List.setIfInBounds_toArray, List.set_cons_zero, List.set_cons_succ] at q
      exact q.drew
    · exact (Frm.setCell (S := fun k => k = w.heap.size + 1) (Frm.setCell (S := fun k => k = w.heap.size + 1) (Frm.refl _ _) (p := ⟨w.heap.size + 1, 6, Option.none⟩) (fun _ => rfl) _) (p := ⟨w.heap.size + 1, 7, Option.none⟩) (fun _ => rfl) _).drew
    rintro W ⟨x3, fr⟩
    have x2 := T2.out.frm fr (by omega)
    have BW := Lib.hid (Below.frm B5.out fr B5.out.size (fun k hk e => by omega))
    obtain ⟨d0, d1, d2, d3, d4, d5, d6, d7, df⟩ := x3.eight
    obtain ⟨e0, e1, e2, e3, e4, e5, e6, e7, ef⟩ := x2.eight
    clear x2 x3 fr T2 T3 B5
    go_wp2
    exact bodyPost_ret (v := stV8 s.d.al s.d.wd s.d.pr s.d.mi s.d.ma (s.yu + s.yv) s.used (s.cf.ps * s.cf.pz - s.used)) (by simp [results, Tryz.results20, go_sem, e0, e1, e2, e3, e4, e5, e6, e7]) rfl
      ⟨rfl, Below.frm BW.out (Frm.set8 (T := fun k => k = w.heap.size) (Frm.refl _ _) _ rfl _ _ _ _ _ _ _ _) BW.out.size (fun k hk e => by omega)⟩
end
end Go.Proofs.YthmhehehomieiaaGreat

/- The document's graph (nodes by their numbers, none of which ever goes) as it lies in memory; what it comes to, as a function of lists. -/
namespace Go.Proofs.YthmhehehomieiaaGreat
open Go.RowKit

/-- A graph: its nodes, from 1 on (what each refers to, and its scalars), what handles hold, and how many fields there may be. -/
structure Gr where
  ns : List (List Int × List Int)
  hs : List Int
  lg : Int

def Gr.has (G : Gr) (h : Int) : Bool := decide (0 ≤ h) && decide (h < G.hs.length)
def Gr.held (G : Gr) (h : Int) : Int := G.hs.getD h.toNat 0
def Gr.wrong (G : Gr) (h : Int) : Int := if G.has h = true then (if G.held h = 0 then 4 else 0) else 3
def Gr.node (G : Gr) (i : Int) : List Int × List Int := G.ns.getD (i.toNat - 1) ([], [])
def Gr.setNode (G : Gr) (i : Int) (x : List Int × List Int) : Gr := { G with ns := G.ns.set (i.toNat - 1) x }
def Gr.hold (G : Gr) (h x : Int) : Gr := { G with hs := G.hs.set h.toNat x }

/-- An entry that changes something: its error, and what it comes to. -/
def Gr.change (G : Gr) (k a b c v : Int) : Int × Gr :=
  if k = 1 then
    if G.has a = true then
      if b < 0 ∨ c < 0 ∨ G.lg < b ∨ G.lg - b < c then (6, G)
      else (0, { G with ns := G.ns ++ [(List.replicate b.toNat 0, List.replicate c.toNat 0)], hs := G.hs.set a.toNat (G.ns.length + 1) })
    else (3, G)
  else if k = 2 then
    if G.wrong b = 0 then
      if G.has a = true then
        if 0 ≤ c ∧ c < (G.node (G.held b)).1.length then (0, G.hold a ((G.node (G.held b)).1.getD c.toNat 0)) else (5, G)
      else (3, G)
    else (G.wrong b, G)
  else if k = 3 then
    if G.wrong a = 0 then
      if G.has c = true then
        if 0 ≤ b ∧ b < (G.node (G.held a)).1.length then (0, G.setNode (G.held a) ((G.node (G.held a)).1.set b.toNat (G.held c), (G.node (G.held a)).2)) else (5, G)
      else (3, G)
    else (G.wrong a, G)
  else if k = 5 then
    if G.wrong a = 0 then
      if 0 ≤ b ∧ b < (G.node (G.held a)).2.length then (0, G.setNode (G.held a) ((G.node (G.held a)).1, (G.node (G.held a)).2.set b.toNat v)) else (5, G)
    else (G.wrong a, G)
  else if k = 6 then
    if G.has a = true then (0, G.hold a 0) else (3, G)
  else if k = 7 then
    if G.has a = true ∧ G.has b = true then (0, G.hold a (G.held b)) else (3, G)
  else (0, G)

/-- A node in memory: what it refers to lies in block pb, its scalars in block sb. -/
structure Nd where
  ps : List Int
  ss : List Int
  pb : Nat
  sb : Nat

def Nd.vs (x : Nd) : List Value := [.slice (some ⟨x.pb, 0, none⟩) x.ps.length x.ps.length, .slice (some ⟨x.sb, 0, none⟩) x.ss.length x.ss.length]
def Nd.two (x : Nd) : List Int × List Int := (x.ps, x.ss)

/-- The nodes' cells, that of number 0 ahead. -/
def ndV (nd : List Nd) : List Value := [.slice none 0 0, .slice none 0 0] ++ nd.flatMap Nd.vs

def wordsU (ys : List Int) : List Value := ys.map (Value.int .u64)

theorem flatNd_length (nd : List Nd) : (nd.flatMap Nd.vs).length = nd.length * 2 := by
  induction nd with
  | nil => rfl
  | cons x nd ih => rw [List.flatMap_cons, List.length_append, ih, List.length_cons]; simp [Nd.vs]; omega

theorem flatNd_at (nd : List Nd) (i j : Nat) (x : Nd) (h : nd[i]? = some x) (hj : j < 2) : (nd.flatMap Nd.vs)[i * 2 + j]? = x.vs[j]? := by
  induction nd generalizing i with
  | nil => simp at h
  | cons y nd ih =>
    rw [List.flatMap_cons]
    cases i with
    | zero =>
      simp at h
      subst h
      rw [Nat.zero_mul, Nat.zero_add]
      exact List.getElem?_append_left (by simpa [Nd.vs] using hj)
    | succ i =>
      simp at h
      rw [List.getElem?_append_right (by simp [Nd.vs]; omega), ← ih i h]
      congr 1
      simp [Nd.vs]; omega

theorem ndV_length (nd : List Nd) : (ndV nd).length = (nd.length + 1) * 2 := by
  rw [ndV, List.length_append, flatNd_length]; simp; omega

theorem ndV_at (nd : List Nd) (i j : Nat) (x : Nd) (h : nd[i]? = some x) (hj : j < 2) : (ndV nd)[(i + 1) * 2 + j]? = x.vs[j]? := by
  rw [ndV, List.getElem?_append_right (by simp; omega), ← flatNd_at nd i j x h hj]
  congr 1
  simp; omega

theorem ndV_snoc (nd : List Nd) (x : Nd) : ndV (nd ++ [x]) = ndV nd ++ x.vs := by simp [ndV, List.flatMap_append]

/-- The cells of nodes hang on blocks and lengths alone. -/
theorem ndV_set (nd : List Nd) (i : Nat) (x y : Nd) (h : nd[i]? = some x) (e : y.vs = x.vs) : ndV (nd.set i y) = ndV nd := by
  unfold ndV
  congr 1
  induction nd generalizing i with
  | nil => rfl
  | cons z nd ih =>
    cases i with
    | zero => simp at h; subst h; simp [e]
    | succ i => simp at h; simp [ih i h]

/-- Block g is the document's graph: nodes in the slice vN, handles in the slice (hA, .., hc). -/
structure IsG (w : World) (g : Nat) (vN : Value) (hA : Option Addr) (hc : Nat) (nd : List Nd) (hs : List Int) (lg : Int) : Prop where
  blk : Blk w g #[vN, .slice hA hs.length hc, .int .i64 lg] 117
  hrow : Qu w hA hs.length hc hs
  nrow : w.ownsRow 0 120 2 vN (nd.length + 1) (ndV nd)
  ptr : ∀ x ∈ nd, Blk w x.pb (ints x.ps).toArray 3
  sca : ∀ x ∈ nd, Blk w x.sb (wordsU x.ss).toArray 51
  hap : ∀ x ∈ nd, blkOf hA ≠ some x.pb
  nap : nd.Pairwise fun x y => x.pb ≠ y.pb ∧ x.sb ≠ y.sb
  hin : ∀ h ∈ hs, 0 ≤ h ∧ h ≤ nd.length
  pin : ∀ x ∈ nd, ∀ q ∈ x.ps, 0 ≤ q ∧ q ≤ nd.length
  few : nd.length ≤ 1048576
  hfew : hs.length ≤ 64
  lg0 : 0 ≤ lg
  lg1 : lg ≤ 64
  size : ∀ x ∈ nd, x.ps.length ≤ 64 ∧ x.ss.length ≤ 64

/-- Its blocks. -/
def gOwn (g : Nat) (vN : Value) (hA : Option Addr) (nd : List Nd) (k : Nat) : Prop := k = g ∨ vN.ownBlock = some k ∨ blkOf hA = some k ∨ ∃ x ∈ nd, k = x.pb ∨ k = x.sb

/-- Block g is the graph G of the document's, in blocks of S. -/
def Rg (w : World) (g : Nat) (S : Nat → Prop) (G : Gr) : Prop :=
  ∃ vN hA hc nd, IsG w g vN hA hc nd G.hs G.lg ∧ G.ns = nd.map Nd.two ∧ S = gOwn g vN hA nd

section
variable {w w' : World} {g : Nat} {vN : Value} {hA : Option Addr} {hc : Nat} {nd : List Nd} {hs : List Int} {lg : Int}

/-- The slice of nodes. -/
theorem IsG.row (h : IsG w g vN hA hc nd hs lg) : ∃ nb nc cur, vN = .slice (some ⟨nb, 0, none⟩) (nd.length + 1) nc ∧ Blk w nb cur 120 ∧ nd.length + 1 ≤ nc ∧ nc ≤ maxLen ∧
    ∀ i j x, nd[i]? = some x → j < 2 → cur[(i + 1) * 2 + j]? = x.vs[j]? := by
  obtain ⟨hl, hv⟩ := h.nrow
  rcases hv with ⟨_, e⟩ | ⟨nb, nc, cur, e, _, hb, hn, hm, hs, ht⟩
  · omega
  · refine ⟨nb, nc, cur, e, hb, hn, hm, fun i j x hx hj => ?_⟩
    have hi : i < nd.length := (List.getElem?_eq_some_iff.1 hx).1
    rw [← ndV_at nd i j x hx hj, ← ht, List.getElem?_take_of_lt (by omega), Array.getElem?_toList]

theorem IsG.own_lt (h : IsG w g vN hA hc nd hs lg) {k : Nat} (hk : gOwn g vN hA nd k) : k < w.heap.size := by
  rcases hk with rfl | e | e | ⟨x, hx, rfl | rfl⟩
  · exact h.blk.lt
  · obtain ⟨nb, nc, cur, rfl, hb, _⟩ := h.row
    cases e
    exact hb.lt
  · exact h.hrow.lt e
  · exact (h.ptr x hx).lt
  · exact (h.sca x hx).lt

theorem ownsRow_frm {S : Nat → Prop} {e : TypeId} {k n : Nat} {v : Value} {xs : List Value} (h : w.ownsRow 0 e k v n xs) (f : Frm S w w') (hs : ∀ j, v.ownBlock = some j → ¬ S j) : w'.ownsRow 0 e k v n xs := by
  obtain ⟨hl, hv⟩ := h
  refine ⟨hl, hv.imp id ?_⟩
  rintro ⟨g, cap, cur, rfl, hb, hg, r⟩
  exact ⟨g, cap, cur, rfl, hb, (show Blk w' g cur e from Blk.frm (S := S) hg f (hs g rfl)), r⟩

theorem IsG.frm {S : Nat → Prop} (h : IsG w g vN hA hc nd hs lg) (f : Frm S w w') (dis : ∀ k, gOwn g vN hA nd k → ¬ S k) : IsG w' g vN hA hc nd hs lg :=
  { h with
    blk := h.blk.frm f (dis _ (.inl rfl))
    hrow := h.hrow.frm f fun k e => dis k (.inr (.inr (.inl e)))
    nrow := ownsRow_frm h.nrow f fun k e => dis k (.inr (.inl e))
    ptr := fun x hx => (h.ptr x hx).frm f (dis _ (.inr (.inr (.inr ⟨x, hx, .inl rfl⟩))))
    sca := fun x hx => (h.sca x hx).frm f (dis _ (.inr (.inr (.inr ⟨x, hx, .inr rfl⟩)))) }

theorem IsG.keep (h : IsG w g vN hA hc nd hs lg) (f : Below w.heap.size w w') : IsG w' g vN hA hc nd hs lg := h.frm (S := fun _ => False) (Frm.of_below f) fun _ _ e => e
end

theorem Rg.keep {w w' : World} {g : Nat} {S : Nat → Prop} {G : Gr} (h : Rg w g S G) (f : Below w.heap.size w w') : Rg w' g S G := by
  obtain ⟨vN, hA, hc, nd, hi, e, es⟩ := h
  exact ⟨vN, hA, hc, nd, hi.keep f, e, es⟩
theorem Rg.frm {w w' : World} {g : Nat} {S T : Nat → Prop} {G : Gr} (h : Rg w g S G) (f : Frm T w w') (dis : ∀ k, S k → ¬ T k) : Rg w' g S G := by
  obtain ⟨vN, hA, hc, nd, hi, e, rfl⟩ := h
  exact ⟨vN, hA, hc, nd, hi.frm f dis, e, rfl⟩
theorem Rg.lt {w : World} {g : Nat} {S : Nat → Prop} {G : Gr} (h : Rg w g S G) {k : Nat} (hk : S k) : k < w.heap.size := by
  obtain ⟨vN, hA, hc, nd, hi, e, rfl⟩ := h
  exact hi.own_lt hk
end Go.Proofs.YthmhehehomieiaaGreat

/- Objects that stand one behind the other, as words of an arena, and as nodes of a graph: lists alone. -/
namespace Go.Proofs.YthmhehehomieiaaGreat
open Go.RowKit

abbrev Node2 := List Int × List Int
def sz (n : Node2) : Nat := n.1.length + n.2.length + 2
def tot (ns : List Node2) : Nat := (ns.map sz).sum
/-- Where node number i + 1 stands. -/
def pos (ns : List Node2) (i : Nat) : Nat := 1 + tot (ns.take i)
/-- What a reference is: 0, or a node's place. -/
def plc (ns : List Node2) (q : Int) : Int := if q ≤ 0 then 0 else pos ns (q.toNat - 1)

theorem tot_nil : tot [] = 0 := rfl
theorem tot_append (a b : List Node2) : tot (a ++ b) = tot a + tot b := by simp [tot]
theorem tot_one (n : Node2) : tot [n] = sz n := by simp [tot]
theorem tot_snoc (a : List Node2) (n : Node2) : tot (a ++ [n]) = tot a + sz n := by rw [tot_append, tot_one]

section
variable {ns ms : List Node2} {i j : Nat} {n m : Node2}

theorem pos_step (h : ns[i]? = some n) : pos ns (i + 1) = pos ns i + sz n := by
  unfold pos
  rw [List.take_add_one, h, Option.toList_some, tot_snoc]
  omega
theorem pos_all : pos ns ns.length = 1 + tot ns := by unfold pos; rw [List.take_length]
theorem pos_mono (h : i ≤ j) : pos ns i ≤ pos ns j := by
  unfold pos
  have : ns.take j = ns.take i ++ (ns.take j).drop i := by
    have := List.take_append_drop i (ns.take j)
    rw [List.take_take, Nat.min_eq_left h] at this
    exact this.symm
  rw [this, tot_append]
  omega
theorem pos_apart (h : ns[i]? = some n) (hij : i < j) : pos ns i + sz n ≤ pos ns j := by rw [← pos_step h]; exact pos_mono hij
theorem pos_end (h : ns[i]? = some n) : pos ns i + sz n ≤ 1 + tot ns := by
  rw [← pos_all]; exact pos_apart h (List.getElem?_eq_some_iff.1 h).1
theorem pos_one : 1 ≤ pos ns i := by unfold pos; omega
theorem sz_two : 2 ≤ sz n := by unfold sz; omega
/-- Places hang on sizes alone. -/
theorem pos_same (h : ns.map sz = ms.map sz) : pos ns i = pos ms i := by
  unfold pos tot
  rw [List.map_take, List.map_take, h]
theorem tot_same (h : ns.map sz = ms.map sz) : tot ns = tot ms := by unfold tot; rw [h]
theorem plc_same (h : ns.map sz = ms.map sz) (q : Int) : plc ns q = plc ms q := by unfold plc; rw [pos_same h]
theorem set_sz (h : ns[i]? = some n) (e : sz m = sz n) : (ns.set i m).map sz = ns.map sz := by
  apply List.ext_getElem?
  intro j
  rw [List.getElem?_map, List.getElem?_map]
  by_cases hj : i = j
  · subst hj
    rw [List.getElem?_set_self (List.getElem?_eq_some_iff.1 h).1, h, Option.map_some, Option.map_some, e]
  · rw [List.getElem?_set_ne hj]
theorem pos_snoc (h : i ≤ ns.length) : pos (ns ++ [n]) i = pos ns i := by
  unfold pos; rw [List.take_append_of_le_length h]
theorem plc_snoc {q : Int} (h : q ≤ ns.length) : plc (ns ++ [n]) q = plc ns q := by
  unfold plc
  split
  · rfl
  · rw [pos_snoc (by omega)]
theorem plc_nil {q : Int} (h0 : 0 ≤ q) : plc ns q = 0 ↔ q = 0 := by
  unfold plc
  have := @pos_one ns (q.toNat - 1)
  split <;> omega
theorem plc_zero : plc ns 0 = 0 := rfl
theorem plc_succ (i : Nat) : plc ns ((i : Int) + 1) = pos ns i := by
  unfold plc
  rw [if_neg (by omega), show ((i : Int) + 1).toNat - 1 = i by omega]
theorem plc_of {q : Int} (h : 0 < q) : plc ns q = pos ns (q.toNat - 1) := by unfold plc; rw [if_neg (by omega)]
theorem plc_in {q : Int} (h1 : q ≤ ns.length) : 0 ≤ plc ns q ∧ plc ns q ≤ 1 + tot ns := by
  unfold plc
  split
  · omega
  · have : pos ns (q.toNat - 1) ≤ pos ns ns.length := pos_mono (by omega)
    rw [pos_all] at this
    omega
theorem plc_inj {q r : Int} (h0 : 0 ≤ q) (h1 : q ≤ ns.length) (k0 : 0 ≤ r) (k1 : r ≤ ns.length) (e : plc ns q = plc ns r) : q = r := by
  rcases Int.lt_or_le 0 q with hq | hq
  · rcases Int.lt_or_le 0 r with hr | hr
    · rw [plc_of hq, plc_of hr] at e
      have lt : ∀ a b : Nat, a < b → b < ns.length → pos ns a ≠ pos ns b := fun a b hab hb e => by
        obtain ⟨x, hx⟩ : ∃ x, ns[a]? = some x := ⟨_, List.getElem?_eq_getElem (by omega)⟩
        have := pos_apart hx hab
        have := @sz_two x
        omega
      rcases Nat.lt_trichotomy (q.toNat - 1) (r.toNat - 1) with h | h | h
      · exact absurd (by omega) (lt _ _ h (by omega))
      · omega
      · exact absurd (by omega) (lt _ _ h (by omega))
    · obtain rfl : r = 0 := by omega
      exact (plc_nil h0).1 (e.trans plc_zero)
  · obtain rfl : q = 0 := by omega
    exact ((plc_nil k0).1 (e.symm.trans plc_zero)).symm
end

/-- A node's words: its head, what it refers to, its scalars. -/
structure NodeW (ws : List Int) (P : Int → Int) (at_ : Nat) (n : Node2) : Prop where
  head : ws[at_]? = some (wordI (n.1.length + n.2.length : Nat) n.1.length 0 0 false false false)
  refs : ∀ (k : Nat) (q : Int), n.1[k]? = some q → ws[at_ + (2 + k)]? = some (P q)
  scas : ∀ (k : Nat) (x : Int), n.2[k]? = some x → ws[at_ + (2 + (n.1.length + k))]? = some x

/-- The nodes' words, one behind the other. -/
structure Lay (ws : List Int) (ns : List Node2) : Prop where
  node : ∀ (i : Nat) (n : Node2), ns[i]? = some n → NodeW ws (plc ns) (pos ns i) n
  refs : ∀ (i : Nat) (n : Node2), ns[i]? = some n → ∀ q ∈ n.1, 0 ≤ q ∧ q ≤ ns.length
  room : 1 + tot ns ≤ ws.length

section
variable {ws vs : List Int} {ns : List Node2} {i k : Nat} {n m : Node2} {P P' : Int → Int} {a : Nat}

/-- Words elsewhere have turned. -/
theorem NodeW.far (h : NodeW ws P a n) (hw : ∀ j, a ≤ j → j < a + sz n → vs[j]? = ws[j]?) (hP : ∀ q ∈ n.1, P' q = P q) : NodeW vs P' a n where
  head := by rw [hw _ (Nat.le_refl _) (by have := @sz_two n; omega)]; exact h.head
  refs := fun k q hq => by
    have hk := (List.getElem?_eq_some_iff.1 hq).1
    rw [hw _ (by omega) (by unfold sz; omega), hP q (List.mem_of_getElem? hq)]
    exact h.refs k q hq
  scas := fun k x hx => by
    have hk := (List.getElem?_eq_some_iff.1 hx).1
    rw [hw _ (by omega) (by unfold sz; omega)]
    exact h.scas k x hx

theorem Lay.set_ref (h : Lay ws ns) (hn : ns[i]? = some n) (hk : k < n.1.length) {q : Int} (q0 : 0 ≤ q) (q1 : q ≤ ns.length) :
    Lay (ws.set (pos ns i + (2 + k)) (plc ns q)) (ns.set i (n.1.set k q, n.2)) := by
  have es : (ns.set i (n.1.set k q, n.2)).map sz = ns.map sz := set_sz hn (by simp [sz])
  have hi := (List.getElem?_eq_some_iff.1 hn).1
  have hp : ∀ r, plc (ns.set i (n.1.set k q, n.2)) r = plc ns r := plc_same es
  have hend := pos_end hn
  have hr := h.room
  have hin : pos ns i + (2 + k) < ws.length := by unfold sz at hend; omega
  refine ⟨fun j m hm => ?_, fun j m hm r hr => ?_, by rw [List.length_set, tot_same es]; exact hr⟩
  · rw [pos_same es]
    by_cases e : j = i
    · subst e
      rw [List.getElem?_set_self hi] at hm
      cases hm
      have old := h.node _ _ hn
      refine ⟨?_, fun k' r hr' => ?_, fun k' x hx => ?_⟩
      · rw [List.getElem?_set_ne (by omega)]
        simpa using old.head
      · rw [hp]
        by_cases ek : k' = k
        · subst ek
          rw [List.getElem?_set_self hk] at hr'
          cases hr'
          rw [List.getElem?_set_self hin]
        · rw [List.getElem?_set_ne (by omega)] at hr' ⊢
          exact old.refs k' r hr'
      · have hk' := (List.getElem?_eq_some_iff.1 hx).1
        simp only [List.length_set] at hx ⊢
        rw [List.getElem?_set_ne (by omega)]
        exact old.scas k' x hx
    · rw [List.getElem?_set_ne (by omega)] at hm
      refine (h.node j m hm).far (fun x h1 h2 => List.getElem?_set_ne ?_) fun r _ => hp r
      rcases Nat.lt_or_gt_of_ne e with hl | hl
      · have := pos_apart hm hl
        omega
      · have := pos_apart hn hl
        unfold sz at this
        omega
  · rw [List.length_set]
    by_cases e : j = i
    · subst e
      rw [List.getElem?_set_self hi] at hm
      cases hm
      rcases List.mem_or_eq_of_mem_set hr with hr | rfl
      · exact h.refs _ _ hn r hr
      · exact ⟨q0, q1⟩
    · rw [List.getElem?_set_ne (by omega)] at hm
      exact h.refs _ _ hm r hr

theorem Lay.set_sca (h : Lay ws ns) (hn : ns[i]? = some n) (hk : k < n.2.length) (x : Int) :
    Lay (ws.set (pos ns i + (2 + (n.1.length + k))) x) (ns.set i (n.1, n.2.set k x)) := by
  have es : (ns.set i (n.1, n.2.set k x)).map sz = ns.map sz := set_sz hn (by simp [sz])
  have hi := (List.getElem?_eq_some_iff.1 hn).1
  have hp : ∀ r, plc (ns.set i (n.1, n.2.set k x)) r = plc ns r := plc_same es
  have hend := pos_end hn
  have hr := h.room
  have hin : pos ns i + (2 + (n.1.length + k)) < ws.length := by unfold sz at hend; omega
  refine ⟨fun j m hm => ?_, fun j m hm r hr => ?_, by rw [List.length_set, tot_same es]; exact hr⟩
  · rw [pos_same es]
    by_cases e : j = i
    · subst e
      rw [List.getElem?_set_self hi] at hm
      cases hm
      have old := h.node _ _ hn
      refine ⟨?_, fun k' r hr' => ?_, fun k' y hy => ?_⟩
      · rw [List.getElem?_set_ne (by omega)]
        simpa using old.head
      · have hk' := (List.getElem?_eq_some_iff.1 hr').1
        simp only at hk'
        rw [hp, List.getElem?_set_ne (by omega)]
        exact old.refs k' r hr'
      · simp only at hy ⊢
        by_cases ek : k' = k
        · subst ek
          rw [List.getElem?_set_self hk] at hy
          cases hy
          rw [List.getElem?_set_self hin]
        · rw [List.getElem?_set_ne (by omega)] at hy ⊢
          exact old.scas k' y hy
    · rw [List.getElem?_set_ne (by omega)] at hm
      refine (h.node j m hm).far (fun y h1 h2 => List.getElem?_set_ne ?_) fun r _ => hp r
      rcases Nat.lt_or_gt_of_ne e with hl | hl
      · have := pos_apart hm hl
        omega
      · have := pos_apart hn hl
        unfold sz at this
        omega
  · rw [List.length_set]
    by_cases e : j = i
    · subst e
      rw [List.getElem?_set_self hi] at hm
      cases hm
      exact h.refs _ _ hn r hr
    · rw [List.getElem?_set_ne (by omega)] at hm
      exact h.refs _ _ hm r hr

theorem splice_at {L cs : List Int} {off j : Nat} (h : off + cs.length ≤ L.length) : (splice L off cs)[j]? = if off ≤ j ∧ j < off + cs.length then cs[j - off]? else L[j]? := by
  unfold splice
  by_cases h1 : j < off
  · rw [if_neg (by omega), List.getElem?_append_left (by rw [List.length_take]; omega), List.getElem?_take_of_lt h1]
  · rw [List.getElem?_append_right (by rw [List.length_take]; omega), List.length_take, Nat.min_eq_left (by omega)]
    by_cases h2 : j < off + cs.length
    · rw [if_pos (by omega), List.getElem?_append_left (by omega)]
    · rw [if_neg (by omega), List.getElem?_append_right (by omega), List.getElem?_drop]
      congr 1
      omega

/-- The words of something that was made. -/
theorem madeW_at {at_ s x : Int} (ha : 0 ≤ at_) (hs : 0 ≤ s) (hi : at_ + (s + 2) ≤ ws.length) :
    (madeW ws at_ s x)[at_.toNat]? = some x ∧ (∀ j, 2 ≤ j → j < (s + 2).toNat → (madeW ws at_ s x)[at_.toNat + j]? = some 0) ∧
    (∀ j, (j < at_.toNat ∨ at_.toNat + (s + 2).toNat ≤ j) → (madeW ws at_ s x)[j]? = ws[j]?) ∧ (madeW ws at_ s x).length = ws.length := by
  have hl : at_.toNat + (List.replicate (s + 2).toNat (0 : Int)).length ≤ ws.length := by rw [List.length_replicate]; omega
  have len : (splice ws at_.toNat (List.replicate (s + 2).toNat (0 : Int))).length = ws.length := splice_len ws hs ⟨ha, hi⟩
  unfold madeW
  refine ⟨?_, fun j h1 h2 => ?_, fun j hj => ?_, by rw [List.length_set, List.length_set, len]⟩
  · rw [List.getElem?_set_ne (by omega), List.getElem?_set_self (by omega)]
  · rw [List.getElem?_set_ne (by omega), List.getElem?_set_ne (by omega), splice_at hl, if_pos (by rw [List.length_replicate]; omega), List.getElem?_replicate, if_pos (by omega)]
  · rw [List.getElem?_set_ne (by omega), List.getElem?_set_ne (by omega), splice_at hl, if_neg (by rw [List.length_replicate]; omega)]

/-- One more node. -/
theorem Lay.add (h : Lay ws ns) (p c : Nat) (hr : 1 + tot ns + (p + c + 2) ≤ ws.length) :
    Lay (madeW ws (1 + tot ns : Nat) (p + c : Nat) (wordI (p + c : Nat) p 0 0 false false false)) (ns ++ [(List.replicate p 0, List.replicate c 0)]) := by
  obtain ⟨m1, m2, m3, m4⟩ := madeW_at (ws := ws) (at_ := (1 + tot ns : Nat)) (s := (p + c : Nat)) (x := wordI (p + c : Nat) p 0 0 false false false) (by omega) (by omega) (by omega)
  generalize madeW ws (1 + tot ns : Nat) (p + c : Nat) (wordI (p + c : Nat) p 0 0 false false false) = vs at *
  simp only [Int.toNat_natCast] at m1 m2 m3
  have e2 : ((p + c : Nat) + 2 : Int).toNat = p + c + 2 := by omega
  rw [e2] at m2 m3
  have hz : sz (List.replicate p (0 : Int), List.replicate c (0 : Int)) = p + c + 2 := by simp [sz]
  refine ⟨fun j m hm => ?_, fun j m hm r hr' => ?_, by rw [m4, tot_snoc, hz]; omega⟩
  · rcases Nat.lt_or_ge j ns.length with hj | hj
    · rw [List.getElem?_append_left hj] at hm
      rw [pos_snoc (by omega)]
      have := pos_end hm
      exact (h.node j m hm).far (fun x h1 h2 => m3 x (.inl (by omega))) fun q hq => plc_snoc (h.refs j m hm q hq).2
    · have e : j = ns.length := by
        have := (List.getElem?_eq_some_iff.1 hm).1
        simp at this
        omega
      subst e
      rw [List.getElem?_append_right (Nat.le_refl _), Nat.sub_self] at hm
      cases hm
      rw [pos_snoc (Nat.le_refl _), pos_all]
      refine ⟨by simpa using m1, fun k q hq => ?_, fun k x hx => ?_⟩
      · have hk := (List.getElem?_eq_some_iff.1 hq).1
        rw [List.length_replicate] at hk
        rw [List.getElem?_replicate, if_pos hk] at hq
        cases hq
        rw [m2 _ (by omega) (by omega)]
        rfl
      · have hk := (List.getElem?_eq_some_iff.1 hx).1
        rw [List.length_replicate] at hk
        rw [List.getElem?_replicate, if_pos hk] at hx
        cases hx
        simp only [List.length_replicate]
        rw [m2 _ (by omega) (by omega)]
  · rw [List.length_append, List.length_singleton]
    rcases Nat.lt_or_ge j ns.length with hj | hj
    · rw [List.getElem?_append_left hj] at hm
      have := h.refs j m hm r hr'
      omega
    · have e : j = ns.length := by
        have := (List.getElem?_eq_some_iff.1 hm).1
        simp at this
        omega
      subst e
      rw [List.getElem?_append_right (Nat.le_refl _), Nat.sub_self] at hm
      cases hm
      have := (List.mem_replicate.1 hr').2
      omega
end
end Go.Proofs.YthmhehehomieiaaGreat

/- A core without cycles is a graph's: what each call comes to, said of the graph. -/
namespace Go.Proofs.YthmhehehomieiaaGreat
open Go.RowKit

/-- The core holds the graph G: its objects stand one behind the other, in the order in which they were made. -/
structure Rep (s : Co) (G : Gr) : Prop where
  calm : s.Calm
  par : s.par = 0
  hs : s.hs = G.hs.map (plc G.ns)
  lg : G.lg = s.cf.lg
  use : s.yu = tot G.ns
  d : s.d = ⟨G.ns.length, tot G.ns, 0, 0, 0, 0, 0, 0⟩
  lay : Lay s.ws G.ns
  hin : ∀ h ∈ G.hs, 0 ≤ h ∧ h ≤ G.ns.length
  wl : (s.ws.length : Int) = s.cf.words
  gx : s.gx = []
  ry : s.ry = []
  rn : s.rn.count true = 0
  room : (tot G.ns : Int) ≤ s.cf.nu
  small : ∀ n ∈ G.ns, n.1.length + n.2.length ≤ 64

theorem usedI_nil : usedI [] = 0 := rfl
theorem Co.Calm.used {s : Co} (h : s.Calm) : s.used = 0 := by unfold Co.used; rw [h.none]; rfl

section
variable {w w' : World} {b : Nat} {S : Nat → Prop} {s : Co} {G : Gr} {h : Int}

theorem Rep.has (r : Rep s G) (h : Int) : s.has h = G.has h := by
  unfold Co.has Gr.has
  rw [r.hs, List.length_map]
theorem Gr.has_iff : G.has h = true ↔ 0 ≤ h ∧ h < G.hs.length := by unfold Gr.has; rw [Bool.and_eq_true, decide_eq_true_eq, decide_eq_true_eq]
theorem Gr.held_mem (e : G.has h = true) : G.hs[h.toNat]? = some (G.held h) := by
  have := Gr.has_iff.1 e
  unfold Gr.held
  rw [List.getD_eq_getElem?_getD, List.getElem?_eq_getElem (show h.toNat < G.hs.length by omega)]
  rfl
theorem Rep.held_in (r : Rep s G) (e : G.has h = true) : 0 ≤ G.held h ∧ G.held h ≤ G.ns.length := r.hin _ (List.mem_of_getElem? (Gr.held_mem e))
theorem Rep.at_ (r : Rep s G) (e : G.has h = true) : s.at_ h = plc G.ns (G.held h) := by
  unfold Co.at_
  rw [if_pos ((r.has h).trans e), r.hs, List.getD_eq_getElem?_getD, List.getElem?_map, Gr.held_mem e]
  rfl
theorem Rep.nil (r : Rep s G) (e : G.has h = true) : s.at_ h = 0 ↔ G.held h = 0 := by
  rw [r.at_ e]; exact plc_nil (r.held_in e).1

/-- The node that a handle holds. -/
theorem Rep.node (r : Rep s G) (e : G.has h = true) (n0 : G.held h ≠ 0) : G.ns[(G.held h).toNat - 1]? = some (G.node (G.held h)) := by
  have := r.held_in e
  unfold Gr.node
  rw [List.getD_eq_getElem?_getD, List.getElem?_eq_getElem (show (G.held h).toNat - 1 < G.ns.length by omega)]
  rfl
theorem Rep.mem (r : Rep s G) (e : G.has h = true) (n0 : G.held h ≠ 0) : G.node (G.held h) ∈ G.ns := List.mem_of_getElem? (r.node e n0)

theorem Rep.place (r : Rep s G) (e : G.has h = true) (n0 : G.held h ≠ 0) : s.at_ h = (pos G.ns ((G.held h).toNat - 1) : Int) := by
  rw [r.at_ e, plc_of (by have := r.held_in e; omega)]

abbrev hd0 : HdP := ⟨0, 0, false, false, false⟩

/-- It is an object. -/
theorem Rep.ob (r : Rep s G) (e : G.has h = true) (n0 : G.held h ≠ 0) :
    Ob s h (pos G.ns ((G.held h).toNat - 1) : Int) ((G.node (G.held h)).1.length + (G.node (G.held h)).2.length : Nat) (G.node (G.held h)).1.length hd0 where
  has := (r.has h).trans e
  at_ := r.place e n0
  x0 := by have := @pos_one G.ns ((G.held h).toNat - 1); omega
  word := by
    have := (r.lay.node _ _ (r.node e n0)).head
    rw [Int.toNat_natCast]
    exact this
  good := by
    have := r.small _ (r.mem e n0)
    exact (goodB_iff ..).2 (by simp only; omega)

theorem Rep.words (r : Rep s G) (hm : s.cf.May) : 1 + (tot G.ns : Int) ≤ s.ws.length ∧ (s.ws.length : Int) ≤ 1048576 ∧ 1 + s.cf.nu ≤ s.ws.length := by
  have e := hm.words
  have := hm.nu1
  have := hm.nu0
  have := r.room
  rw [r.wl]
  unfold Cfg.words
  omega

/-- How an entry ends: an error, and what it comes to. -/
def Act13 (w : World) (b : Nat) (S : Nat → Prop) (s : Co) (E : Int) (G' : Gr) (w' : World) : Prop := ∃ s', CoR w b S s' w' ∧ Rep s' G' ∧ s'.cf = s.cf ∧ (E ≠ 0 → s' = s)

theorem Act13.same (r : Rep s G) (c : CoR w b S s w') (E : Int) : Act13 w b S s E G w' := ⟨s, c, r, rfl, fun _ => rfl⟩

/-- There is no room for what an entry makes. -/
def full (nu : Int) (G : Gr) (k a p q : Int) : Prop := k = 1 ∧ G.has a = true ∧ 0 ≤ p ∧ 0 ≤ q ∧ p ≤ G.lg - q ∧ nu - tot G.ns < p + q + 2
instance (nu : Int) (G : Gr) (k a p q : Int) : Decidable (full nu G k a p q) := by unfold full; infer_instance

def stE (nu : Int) (G : Gr) (k a p q v : Int) : Int := if full nu G k a p q then 7 else (G.change k a p q v).1
def stG (nu : Int) (G : Gr) (k a p q v : Int) : Gr := if full nu G k a p q then G else (G.change k a p q v).2

theorem stE_other {nu k a p q v : Int} (hk : k ≠ 1) : stE nu G k a p q v = (G.change k a p q v).1 := by unfold stE; rw [if_neg fun e => hk e.1]
theorem stG_other {nu k a p q v : Int} (hk : k ≠ 1) : stG nu G k a p q v = (G.change k a p q v).2 := by unfold stG; rw [if_neg fun e => hk e.1]

/-- An object was made. -/
theorem Rep.made (r : Rep s G) (hm : s.cf.May) (a p q : Int) (p0 : 0 ≤ p) (q0 : 0 ≤ q) (hl : p ≤ G.lg - q) (hr : p + q + 2 ≤ s.cf.nu - tot G.ns) :
    Rep (s.made a p q) { G with ns := G.ns ++ [(List.replicate p.toNat 0, List.replicate q.toNat 0)], hs := G.hs.set a.toNat (G.ns.length + 1) } := by
  have hz : sz (List.replicate p.toNat (0 : Int), List.replicate q.toNat (0 : Int)) = p.toNat + q.toNat + 2 := by simp [sz]
  have lg1 := hm.lg1
  have hlg := r.lg
  have hw := r.words hm
  have hn : s.next = ((1 + tot G.ns : Nat) : Int) := by
    unfold Co.next
    rw [r.calm.half, r.use]
    show 1 + (tot G.ns : Int) = _
    omega
  have epq : p + q = ((p.toNat + q.toNat : Nat) : Int) := by omega
  have ep : p = (p.toNat : Int) := by omega
  have hx : s.ws.length = (madeW s.ws s.next (p + q) (wordI (p + q) p 0 s.par false false false)).length :=
    ((madeW_at (ws := s.ws) (at_ := s.next) (s := p + q) (x := wordI (p + q) p 0 s.par false false false) (by omega) (by omega) (by omega)).2.2.2).symm
  exact
    { calm := { left := r.calm.left, half := r.calm.half, idle := r.calm.idle, still := r.calm.still, none := r.calm.none }
      par := r.par
      hs := by
        show (s.hs.set a.toNat s.next) = _
        rw [r.hs, hn]
        simp only
        rw [List.map_set]
        have : plc (G.ns ++ [(List.replicate p.toNat 0, List.replicate q.toNat 0)]) (G.ns.length + 1) = ((1 + tot G.ns : Nat) : Int) := by
          rw [plc_succ, pos_snoc (Nat.le_refl _), pos_all]
        rw [this]
        congr 1
        exact List.map_congr_left fun h hh => (plc_snoc (r.hin h hh).2).symm
      lg := r.lg
      use := by
        show s.yu + (p + q + 2) = _
        rw [r.use]
        simp only
        rw [tot_snoc, hz]
        omega
      d := by
        show Dn.mk (s.d.al + 1) (s.d.wd + (p + q + 2)) s.d.pr s.d.mi s.d.ma s.d.yo s.d.ol s.d.fr = _
        rw [r.d]
        simp only
        rw [tot_snoc, hz, List.length_append, List.length_singleton]
        congr 1
        omega
      lay := by
        show Lay (madeW s.ws s.next (p + q) (wordI (p + q) p 0 s.par false false false)) _
        have := r.lay.add p.toNat q.toNat (by omega)
        rw [hn, r.par, epq]
        conv in wordI _ p _ _ _ _ _ => rw [ep]
        exact this
      hin := fun h hh => by
        simp only at hh ⊢
        rw [List.length_append, List.length_singleton]
        rcases List.mem_or_eq_of_mem_set hh with e | rfl
        · have := r.hin h e; omega
        · omega
      wl := by
        show ((madeW s.ws s.next (p + q) (wordI (p + q) p 0 s.par false false false)).length : Int) = s.cf.words
        rw [← hx]; exact r.wl
      gx := r.gx
      ry := r.ry
      rn := r.rn
      room := by
        show ((tot (G.ns ++ [(List.replicate p.toNat 0, List.replicate q.toNat 0)]) : Nat) : Int) ≤ s.cf.nu
        rw [tot_snoc, hz]
        omega
      small := fun n hn => by
        simp only at hn
        rcases List.mem_append.1 hn with e | e
        · exact r.small n e
        · obtain rfl := List.mem_singleton.1 e
          simp only [List.length_replicate]
          omega }

theorem change_make {a p q v : Int} (e : G.has a = true) (hn : ¬ (p < 0 ∨ q < 0 ∨ G.lg < p ∨ G.lg - p < q)) :
    G.change 1 a p q v = (0, { G with ns := G.ns ++ [(List.replicate p.toNat 0, List.replicate q.toNat 0)], hs := G.hs.set a.toNat (G.ns.length + 1) }) := by
  unfold Gr.change
  rw [if_pos rfl, if_pos e, if_neg hn]
theorem change_size {a p q v : Int} (e : G.has a = true) (hn : p < 0 ∨ q < 0 ∨ G.lg < p ∨ G.lg - p < q) : G.change 1 a p q v = (6, G) := by
  unfold Gr.change
  rw [if_pos rfl, if_pos e, if_pos hn]
theorem change_no {a p q v : Int} (e : G.has a = false) : G.change 1 a p q v = (3, G) := by
  unfold Gr.change
  rw [if_pos rfl, if_neg (by rw [e]; exact Bool.false_ne_true)]

/-- Make. -/
theorem make_rep (hC : Cr w b S s) (r : Rep s G) (a p q v : Int) (q1 : q ≤ 9223372036854775807) :
    Calls Tryz.prog 33 #[ptr b, .int .i64 a, .int .i64 p, .int .i64 q] w fun e w' => e = .returned (.int .i64 (stE s.cf.nu G 1 a p q v)) ∧ Act13 w b S s (stE s.cf.nu G 1 a p q v) (stG s.cf.nu G 1 a p q v) w' := by
  have may := hC.may
  have hlg := r.lg
  have l0 := may.lg0
  have l1 := may.lg1
  unfold stE stG
  cases e : G.has a
  · rw [if_neg (fun h => Bool.false_ne_true (e.symm.trans h.2.1)), if_neg (fun h => Bool.false_ne_true (e.symm.trans h.2.1)), change_no e]
    exact (make_no_h hC a p q ((r.has a).trans e)).mono fun _ _ ⟨h1, h2⟩ => ⟨h1, by subst h2; exact .same r hC.same _⟩
  · have e' := (r.has a).trans e
    by_cases hn : p < 0 ∨ q < 0 ∨ G.lg < p ∨ G.lg - p < q
    · have nf : ¬ full s.cf.nu G 1 a p q := fun h => by obtain ⟨_, _, h3, h4, h5, _⟩ := h; omega
      rw [if_neg nf, if_neg nf, change_size e hn]
      exact (make_size hC a p q e' (by omega) q1).mono fun _ _ ⟨h1, h2⟩ => ⟨h1, by subst h2; exact .same r hC.same _⟩
    · by_cases hf : s.cf.nu - tot G.ns < p + q + 2
      · have yf : full s.cf.nu G 1 a p q := ⟨rfl, e, by omega, by omega, by omega, hf⟩
        rw [if_pos yf, if_pos yf]
        exact (make_room hC a p q e' (by omega) (by omega) (by omega) r.calm.still (by rw [r.use]; exact hf)).mono fun _ _ ⟨h1, h2⟩ => ⟨h1, .same r (hC.stay h2) _⟩
      · have nf : ¬ full s.cf.nu G 1 a p q := fun h => hf h.2.2.2.2.2
        rw [if_neg nf, if_neg nf, change_make e hn]
        have hw := r.words may
        have hnx : s.next = 1 + (tot G.ns : Int) := by unfold Co.next; rw [r.calm.half, r.use]; rfl
        have hd := r.d
        have hcount : (G.ns.length : Int) ≤ tot G.ns := by
          have : ∀ ns : List Node2, ns.length ≤ tot ns := fun ns => by
            induction ns with
            | nil => exact Nat.le_refl _
            | cons n ns ih => have : tot (n :: ns) = sz n + tot ns := by simp [tot]
                              have := @sz_two n
                              rw [List.length_cons]; omega
          have := this G.ns
          omega
        have hroom := r.room
        have hnu := may.nu1
        refine (make_yes_c hC a p q e' (by omega) (by omega) (by omega) r.calm.still (by rw [r.use]; omega) (.inl r.par) (by omega) (by omega) (by rw [hd]; simp only; omega) (by rw [hd]; simp only; omega) (by rw [hd]; simp only; omega) (by rw [hd]; simp only; omega)).mono ?_
        rintro _ _ ⟨h1, h2⟩
        exact ⟨h1, _, h2, r.made may a p q (by omega) (by omega) (by omega) (by omega), rfl, fun h => absurd rfl h⟩
end
end Go.Proofs.YthmhehehomieiaaGreat

/- Entries of a script and their answers, as values; what an entry that asks is answered. -/
namespace Go.Proofs.YthmhehehomieiaaGreat
open Go.RowKit

abbrev anV (e : Int) (y : Bool) (n v : Int) : Value := .agg #[.int .i64 e, .bool y, .int .i64 n, .int .u64 v]

/-- An entry that asks, and what it answers: an error, a flag, a number, a word. -/
def Gr.ask (G : Gr) (k a b : Int) : Int × Bool × Int × Int :=
  if k = 4 then
    if G.wrong a = 0 then
      if 0 ≤ b ∧ b < (G.node (G.held a)).2.length then (0, false, 0, (G.node (G.held a)).2.getD b.toNat 0) else (5, false, 0, 0)
    else (G.wrong a, false, 0, 0)
  else if k = 10 then
    if G.wrong a = 0 then (0, false, (G.node (G.held a)).1.length, (G.node (G.held a)).2.length) else (G.wrong a, false, 0, 0)
  else if k = 8 then
    if G.has a = true ∧ G.has b = true then (0, G.held a == G.held b, 0, 0) else (3, false, 0, 0)
  else if k = 9 then
    if G.has a = true then (0, G.held a == 0, 0, 0) else (3, false, 0, 0)
  else if (k = 11 ∨ k = 12) ∧ (a = 0 ∨ a = 1) then (0, false, 0, 0)
  else (1, false, 0, 0)

/-- Does an entry change something? -/
def turnsK (k : Int) : Prop := k = 1 ∨ k = 2 ∨ k = 3 ∨ k = 5 ∨ k = 6 ∨ k = 7

abbrev anB : Obj := .cells #[.int .i64 0, .bool false, .int .i64 0, .int .u64 0] 55
/-- An answer, laid into its box. -/
abbrev anW (w : World) (k : Nat) (e : Int) (y : Bool) (n v : Int) : World := (((w.setCell ⟨k, 0, none⟩ (.int .i64 e)).setCell ⟨k, 1, none⟩ (.bool y)).setCell ⟨k, 2, none⟩ (.int .i64 n)).setCell ⟨k, 3, none⟩ (.int .u64 v)

theorem anW_blk {w : World} {k : Nat} (h : Blk w k #[.int .i64 0, .bool false, .int .i64 0, .int .u64 0] 55) (e : Int) (y : Bool) (n v : Int) : Blk (anW w k e y n v) k #[.int .i64 e, .bool y, .int .i64 n, .int .u64 v] 55 :=
  (((h.set_ 0 _).set_ 1 _).set_ 2 _).set_ 3 _

theorem anW_frm (w : World) (k : Nat) (e : Int) (y : Bool) (n v : Int) : Frm (fun j => j = k) w (anW w k e y n v) :=
  ((((Frm.refl (fun j => j = k) w).setCell (p := ⟨k, 0, none⟩) (fun _ => rfl) _).setCell (p := ⟨k, 1, none⟩) (fun _ => rfl) _).setCell (p := ⟨k, 2, none⟩) (fun _ => rfl) _).setCell (p := ⟨k, 3, none⟩) (fun _ => rfl) _
end Go.Proofs.YthmhehehomieiaaGreat

/- Get, Set, Write, Clear, Copy; Read, Shape, Same, Nil: what each comes to, said of the graph. -/
namespace Go.Proofs.YthmhehehomieiaaGreat
open Go.RowKit

section
variable {w w' : World} {b : Nat} {S : Nat → Prop} {s : Co} {G : Gr} {h : Int}

/-- What is wrong with a handle. -/
theorem Gr.wrong_cases (G : Gr) (h : Int) : (G.has h = false ∧ G.wrong h = 3) ∨ (G.has h = true ∧ G.held h = 0 ∧ G.wrong h = 4) ∨ (G.has h = true ∧ G.held h ≠ 0 ∧ G.wrong h = 0) := by
  unfold Gr.wrong
  cases e : G.has h
  · exact .inl ⟨rfl, by rw [if_neg Bool.false_ne_true]⟩
  · by_cases z : G.held h = 0
    · exact .inr (.inl ⟨rfl, z, by rw [if_pos rfl, if_pos z]⟩)
    · exact .inr (.inr ⟨rfl, z, by rw [if_pos rfl, if_neg z]⟩)

theorem Rep.wrong (hC : Cr w b S s) (r : Rep s G) (n : G.wrong h ≠ 0) : Wrong (ptr b) h (G.wrong h) w := by
  rcases G.wrong_cases h with ⟨e, k⟩ | ⟨e, z, k⟩ | ⟨_, _, k⟩
  · rw [k]; exact wrong_no hC ((r.has h).trans e)
  · rw [k]; exact wrong_nil hC ((r.has h).trans e) ((r.nil e).2 z)
  · exact absurd k n

theorem Gr.wrong_zero (k : G.wrong h = 0) : G.has h = true ∧ G.held h ≠ 0 := by
  rcases G.wrong_cases h with ⟨e, k'⟩ | ⟨e, z, k'⟩ | ⟨e, z, _⟩
  · omega
  · omega
  · exact ⟨e, z⟩

/-- A handle holds another node. -/
theorem Rep.hold (r : Rep s G) (d q : Int) (q0 : 0 ≤ q) (q1 : q ≤ G.ns.length) : Rep (s.put (s.hs.set d.toNat (plc G.ns q))) (G.hold d q) :=
  { calm := { left := r.calm.left, half := r.calm.half, idle := r.calm.idle, still := r.calm.still, none := r.calm.none }
    par := r.par
    hs := by
      show s.hs.set d.toNat (plc G.ns q) = (G.hs.set d.toNat q).map (plc G.ns)
      rw [r.hs, List.map_set]
    lg := r.lg
    use := r.use
    d := r.d
    lay := r.lay
    hin := fun h hh => by
      rcases List.mem_or_eq_of_mem_set (show h ∈ G.hs.set d.toNat q from hh) with e | rfl
      · exact r.hin h e
      · exact ⟨q0, q1⟩
    wl := r.wl
    gx := r.gx
    ry := r.ry
    rn := r.rn
    room := r.room
    small := r.small }

/-- A node has turned. -/
theorem Rep.turn (r : Rep s G) (i : Int) (m : Node2) (vs : List Int) (hi : G.ns[i.toNat - 1]? = some (G.node i)) (hz : sz m = sz (G.node i)) (hl : Lay vs (G.ns.set (i.toNat - 1) m)) (hv : vs.length = s.ws.length) : Rep (s.wrote vs) (G.setNode i m) := by
  have es := set_sz hi hz
  exact
  { calm := { left := r.calm.left, half := r.calm.half, idle := r.calm.idle, still := r.calm.still, none := r.calm.none }
    par := r.par
    hs := by
      show s.hs = G.hs.map (plc (G.ns.set (i.toNat - 1) m))
      rw [r.hs]
      exact List.map_congr_left fun h _ => (plc_same es h).symm
    lg := r.lg
    use := by
      show s.yu = tot (G.ns.set (i.toNat - 1) m)
      rw [tot_same es]
      exact r.use
    d := by
      show s.d = ⟨(G.ns.set (i.toNat - 1) m).length, tot (G.ns.set (i.toNat - 1) m), 0, 0, 0, 0, 0, 0⟩
      rw [tot_same es, List.length_set]
      exact r.d
    lay := hl
    hin := fun h hh => by
      show 0 ≤ h ∧ h ≤ (G.ns.set (i.toNat - 1) m).length
      rw [List.length_set]
      exact r.hin h hh
    wl := by
      show (vs.length : Int) = s.cf.words
      rw [hv]
      exact r.wl
    gx := r.gx
    ry := r.ry
    rn := r.rn
    room := by
      show (tot (G.ns.set (i.toNat - 1) m) : Int) ≤ s.cf.nu
      rw [tot_same es]
      exact r.room
    small := fun n hn => by
      rcases List.mem_or_eq_of_mem_set (show n ∈ G.ns.set (i.toNat - 1) m from hn) with e | rfl
      · exact r.small n e
      · have := r.small _ (List.mem_of_getElem? hi)
        unfold sz at hz
        omega }

theorem wrap64_in' {n : Int} (h0 : 0 ≤ n) (h1 : n ≤ 9223372036854775807) : wrap64 n = n := by unfold wrap64; omega

theorem refB_no {p n : Int} (h : ¬ (0 ≤ n ∧ n < p)) : refB p n = false := by
  cases e : refB p n
  · rfl
  · exact absurd (refB_iff.1 e) h
theorem scaB_no {z p n : Int} (h : ¬ (0 ≤ n ∧ n < z - p)) : scaB z p n = false := by
  cases e : scaB z p n
  · rfl
  · exact absurd (scaB_iff.1 e) h

/-- Get: entry 2. -/
theorem get_rep (hC : Cr w b S s) (r : Rep s G) (d h n v : Int) :
    Calls Tryz.prog 35 #[ptr b, .int .i64 d, .int .i64 h, .int .i64 n] w fun e w' => e = .returned (.int .i64 (G.change 2 d h n v).1) ∧ Act13 w b S s (G.change 2 d h n v).1 (G.change 2 d h n v).2 w' := by
  unfold Gr.change
  rw [if_neg (by omega), if_pos rfl]
  by_cases k : G.wrong h = 0
  · rw [if_pos k]
    obtain ⟨e, z⟩ := Gr.wrong_zero k
    have o := r.ob e z
    have hi := r.held_in e
    cases ed : G.has d
    · rw [if_neg Bool.false_ne_true]
      exact (get_to hC o d n ((r.has d).trans ed)).mono fun _ _ ⟨h1, h2⟩ => ⟨h1, .same r h2 _⟩
    · rw [if_pos rfl]
      by_cases hn : 0 ≤ n ∧ n < (G.node (G.held h)).1.length
      · rw [if_pos hn]
        have nd := r.node e z
        have hq : (G.node (G.held h)).1[n.toNat]? = some ((G.node (G.held h)).1.getD n.toNat 0) := by
          rw [List.getD_eq_getElem?_getD, List.getElem?_eq_getElem (show n.toNat < (G.node (G.held h)).1.length by omega)]; rfl
        generalize (G.node (G.held h)).1.getD n.toNat 0 = q at *
        have hp := r.lay.refs _ _ nd q (List.mem_of_getElem? hq)
        have hw := (r.lay.node _ _ nd).refs _ _ hq
        have hwd := r.words hC.may
        have pin := @plc_in G.ns q hp.2
        have hroom := r.room
        have hnu := hC.may.nu1
        have e1 : ((pos G.ns ((G.held h).toNat - 1) : Int) + (2 + n)).toNat = pos G.ns ((G.held h).toNat - 1) + (2 + n.toNat) := by omega
        refine (get_yes hC o d n (plc G.ns q) ((r.has d).trans ed) (refB_iff.2 hn) (by rw [e1]; exact hw) (wrap64_in' (by omega) (by omega)) (r.calm.from_ _) (by rw [r.calm.idle]; omega)).mono ?_
        rintro _ _ ⟨h1, h2⟩
        exact ⟨h1, _, h2, r.hold d q hp.1 hp.2, rfl, fun h => absurd rfl h⟩
      · rw [if_neg hn]
        exact (get_field hC o d n ((r.has d).trans ed) (refB_no hn)).mono fun _ _ ⟨h1, h2⟩ => ⟨h1, .same r h2 _⟩
  · rw [if_neg k]
    exact (get_wrong d h n _ k w (r.wrong hC k)).mono fun _ _ ⟨h1, h2⟩ => ⟨h1, .same r (hC.stay h2) _⟩

/-- Set: entry 3. -/
theorem set_rep (hC : Cr w b S s) (r : Rep s G) (h n f v : Int) :
    Calls Tryz.prog 41 #[ptr b, .int .i64 h, .int .i64 n, .int .i64 f] w fun e w' => e = .returned (.int .i64 (G.change 3 h n f v).1) ∧ Act13 w b S s (G.change 3 h n f v).1 (G.change 3 h n f v).2 w' := by
  unfold Gr.change
  rw [if_neg (by omega), if_neg (by omega), if_pos rfl]
  by_cases k : G.wrong h = 0
  · rw [if_pos k]
    obtain ⟨e, z⟩ := Gr.wrong_zero k
    have o := r.ob e z
    have hi := r.held_in e
    cases ed : G.has f
    · rw [if_neg Bool.false_ne_true]
      exact (set_to hC o n f ((r.has f).trans ed)).mono fun _ _ ⟨h1, h2⟩ => ⟨h1, .same r h2 _⟩
    · rw [if_pos rfl]
      by_cases hn : 0 ≤ n ∧ n < (G.node (G.held h)).1.length
      · rw [if_pos hn]
        have nd := r.node e z
        have hq := r.held_in ed
        have hwd := r.words hC.may
        have pin := @plc_in G.ns (G.held f) hq.2
        have hend := pos_end nd
        have hroom := r.room
        have hnu := hC.may.nu1
        have e1 : ((pos G.ns ((G.held h).toNat - 1) : Int) + (2 + n)).toNat = pos G.ns ((G.held h).toNat - 1) + (2 + n.toNat) := by omega
        have hlay := r.lay.set_ref nd (k := n.toNat) (by omega) hq.1 hq.2
        refine (set_yes hC o n f (plc G.ns (G.held f)) ((r.has f).trans ed) (r.at_ ed) (by omega) (by omega) (by omega) (refB_iff.2 hn) (by unfold sz at hend; omega) (r.calm.old _)).mono ?_
        rw [e1]
        rintro _ _ ⟨h1, h2⟩
        exact ⟨h1, _, h2, r.turn (G.held h) _ _ nd (by simp [sz]) hlay (by simp), rfl, fun h => absurd rfl h⟩
      · rw [if_neg hn]
        exact (set_field hC o n f ((r.has f).trans ed) (refB_no hn)).mono fun _ _ ⟨h1, h2⟩ => ⟨h1, .same r h2 _⟩
  · rw [if_neg k]
    exact (set_wrong h n f _ k w (r.wrong hC k)).mono fun _ _ ⟨h1, h2⟩ => ⟨h1, .same r (hC.stay h2) _⟩

/-- Write: entry 5. -/
theorem write_rep (hC : Cr w b S s) (r : Rep s G) (h n c v : Int) :
    Calls Tryz.prog 40 #[ptr b, .int .i64 h, .int .i64 n, .int .u64 v] w fun e w' => e = .returned (.int .i64 (G.change 5 h n c v).1) ∧ Act13 w b S s (G.change 5 h n c v).1 (G.change 5 h n c v).2 w' := by
  unfold Gr.change
  rw [if_neg (by omega), if_neg (by omega), if_neg (by omega), if_pos rfl]
  by_cases k : G.wrong h = 0
  · rw [if_pos k]
    obtain ⟨e, z⟩ := Gr.wrong_zero k
    have o := r.ob e z
    have hi := r.held_in e
    have hz : (((G.node (G.held h)).1.length + (G.node (G.held h)).2.length : Nat) : Int) - (G.node (G.held h)).1.length = (G.node (G.held h)).2.length := by omega
    by_cases hn : 0 ≤ n ∧ n < (G.node (G.held h)).2.length
    · rw [if_pos hn]
      have nd := r.node e z
      have hwd := r.words hC.may
      have hend := pos_end nd
      have e1 : ((pos G.ns ((G.held h).toNat - 1) : Int) + (2 + ((G.node (G.held h)).1.length + n))).toNat = pos G.ns ((G.held h).toNat - 1) + (2 + ((G.node (G.held h)).1.length + n.toNat)) := by omega
      have hlay := r.lay.set_sca nd (k := n.toNat) (by omega) v
      refine (write_yes hC o n v (scaB_iff.2 (by rw [hz]; exact hn)) (by unfold sz at hend; omega)).mono ?_
      rw [e1]
      rintro _ _ ⟨h1, h2⟩
      exact ⟨h1, _, h2, r.turn (G.held h) _ _ nd (by simp [sz]) hlay (by simp), rfl, fun h => absurd rfl h⟩
    · rw [if_neg hn]
      exact (write_field hC o n v (scaB_no (by rw [hz]; exact hn))).mono fun _ _ ⟨h1, h2⟩ => ⟨h1, .same r h2 _⟩
  · rw [if_neg k]
    exact (write_wrong h n v _ k w (r.wrong hC k)).mono fun _ _ ⟨h1, h2⟩ => ⟨h1, .same r (hC.stay h2) _⟩

/-- Clear: entry 6. -/
theorem clear_rep (hC : Cr w b S s) (r : Rep s G) (h n c v : Int) :
    Calls Tryz.prog 44 #[ptr b, .int .i64 h] w fun e w' => e = .returned (.int .i64 (G.change 6 h n c v).1) ∧ Act13 w b S s (G.change 6 h n c v).1 (G.change 6 h n c v).2 w' := by
  unfold Gr.change
  rw [if_neg (by omega), if_neg (by omega), if_neg (by omega), if_neg (by omega), if_pos rfl]
  cases e : G.has h
  · rw [if_neg Bool.false_ne_true]
    exact (clear_no h 3 (by omega) w (noH_no hC ((r.has h).trans e))).mono fun _ _ ⟨h1, h2⟩ => ⟨h1, by subst h2; exact .same r hC.same _⟩
  · rw [if_pos rfl]
    exact (clear_yes hC ((r.has h).trans e)).mono fun _ _ ⟨h1, h2⟩ => ⟨h1, _, h2, r.hold h 0 (by omega) (by omega), rfl, fun h => absurd rfl h⟩

/-- Copy: entry 7. -/
theorem coCopy_rep (hC : Cr w b S s) (r : Rep s G) (d f c v : Int) :
    Calls Tryz.prog 42 #[ptr b, .int .i64 d, .int .i64 f] w fun e w' => e = .returned (.int .i64 (G.change 7 d f c v).1) ∧ Act13 w b S s (G.change 7 d f c v).1 (G.change 7 d f c v).2 w' := by
  unfold Gr.change
  rw [if_neg (by omega), if_neg (by omega), if_neg (by omega), if_neg (by omega), if_neg (by omega), if_pos rfl]
  cases ef : G.has f
  · rw [if_neg (fun h => Bool.false_ne_true h.2)]
    exact (coCopy_no d f 3 (by omega) w (noH_no hC ((r.has f).trans ef))).mono fun _ _ ⟨h1, h2⟩ => ⟨h1, by subst h2; exact .same r hC.same _⟩
  · cases ed : G.has d
    · rw [if_neg (fun h => Bool.false_ne_true h.1)]
      exact (coCopy_to hC f ((r.has f).trans ef) ((r.has d).trans ed)).mono fun _ _ ⟨h1, h2⟩ => ⟨h1, by subst h2; exact .same r hC.same _⟩
    · rw [if_pos ⟨rfl, rfl⟩]
      have hf := r.held_in ef
      have := coCopy_yes hC f ((r.has f).trans ef) ((r.has d).trans ed)
      rw [r.at_ ef] at this
      exact this.mono fun _ _ ⟨h1, h2⟩ => ⟨h1, _, h2, r.hold d _ hf.1 hf.2, rfl, fun h => absurd rfl h⟩

/-- Read: entry 4. -/
theorem read_rep (hC : Cr w b S s) (r : Rep s G) (h n : Int) :
    Calls Tryz.prog 37 #[ptr b, .int .i64 h, .int .i64 n] w fun e w' => e = .returned (.tuple #[.int .u64 (G.ask 4 h n).2.2.2, .int .i64 (G.ask 4 h n).1]) ∧ (G.ask 4 h n).2.1 = false ∧ (G.ask 4 h n).2.2.1 = 0 ∧ CoR w b S s w' := by
  unfold Gr.ask
  rw [if_pos rfl]
  by_cases k : G.wrong h = 0
  · rw [if_pos k]
    obtain ⟨e, z⟩ := Gr.wrong_zero k
    have o := r.ob e z
    have hi := r.held_in e
    have hz : (((G.node (G.held h)).1.length + (G.node (G.held h)).2.length : Nat) : Int) - (G.node (G.held h)).1.length = (G.node (G.held h)).2.length := by omega
    by_cases hn : 0 ≤ n ∧ n < (G.node (G.held h)).2.length
    · rw [if_pos hn]
      have nd := r.node e z
      have hq : (G.node (G.held h)).2[n.toNat]? = some ((G.node (G.held h)).2.getD n.toNat 0) := by
        rw [List.getD_eq_getElem?_getD, List.getElem?_eq_getElem (show n.toNat < (G.node (G.held h)).2.length by omega)]; rfl
      have hw := (r.lay.node _ _ nd).scas _ _ hq
      have e1 : ((pos G.ns ((G.held h).toNat - 1) : Int) + (2 + ((G.node (G.held h)).1.length + n))).toNat = pos G.ns ((G.held h).toNat - 1) + (2 + ((G.node (G.held h)).1.length + n.toNat)) := by omega
      exact (read_yes hC o n _ (scaB_iff.2 (by rw [hz]; exact hn)) (by rw [e1]; exact hw)).mono fun _ _ ⟨h1, h2⟩ => ⟨h1, rfl, rfl, h2⟩
    · rw [if_neg hn]
      exact (read_field hC o n (scaB_no (by rw [hz]; exact hn))).mono fun _ _ ⟨h1, h2⟩ => ⟨h1, rfl, rfl, h2⟩
  · rw [if_neg k]
    exact (read_wrong h n _ k w (r.wrong hC k)).mono fun _ _ ⟨h1, h2⟩ => ⟨h1, rfl, rfl, hC.stay h2⟩

/-- Shape: entry 10. -/
theorem shape_rep (hC : Cr w b S s) (r : Rep s G) (h n : Int) :
    Calls Tryz.prog 34 #[ptr b, .int .i64 h] w fun e w' => e = .returned (.tuple #[.int .i64 (G.ask 10 h n).2.2.1, .int .i64 (G.ask 10 h n).2.2.2, .int .i64 (G.ask 10 h n).1]) ∧ (G.ask 10 h n).2.1 = false ∧ CoR w b S s w' := by
  unfold Gr.ask
  rw [if_neg (by omega), if_pos rfl]
  by_cases k : G.wrong h = 0
  · rw [if_pos k]
    obtain ⟨e, z⟩ := Gr.wrong_zero k
    have hz : (((G.node (G.held h)).1.length + (G.node (G.held h)).2.length : Nat) : Int) - (G.node (G.held h)).1.length = (G.node (G.held h)).2.length := by omega
    have := shape_yes hC (r.ob e z)
    rw [hz] at this
    exact this.mono fun _ _ ⟨h1, h2⟩ => ⟨h1, rfl, h2⟩
  · rw [if_neg k]
    exact (shape_wrong h _ w (r.wrong hC k)).mono fun _ _ ⟨h1, h2⟩ => ⟨h1, rfl, hC.stay h2⟩

/-- Same: entry 8. -/
theorem same_rep (hC : Cr w b S s) (r : Rep s G) (h f : Int) :
    Calls Tryz.prog 43 #[ptr b, .int .i64 h, .int .i64 f] w fun e w' => e = .returned (.tuple #[.bool (G.ask 8 h f).2.1, .int .i64 (G.ask 8 h f).1]) ∧ (G.ask 8 h f).2.2 = (0, 0) ∧ w = w' := by
  unfold Gr.ask
  rw [if_neg (by omega), if_neg (by omega), if_pos rfl]
  cases eh : G.has h
  · rw [if_neg (fun h => Bool.false_ne_true h.1)]
    exact (same_no h f 3 (by omega) w (noH_no hC ((r.has h).trans eh))).mono fun _ _ ⟨h1, h2⟩ => ⟨h1, rfl, h2⟩
  · cases ef : G.has f
    · rw [if_neg (fun h => Bool.false_ne_true h.2)]
      exact (same_to hC f ((r.has h).trans eh) ((r.has f).trans ef)).mono fun _ _ ⟨h1, h2⟩ => ⟨h1, rfl, h2⟩
    · rw [if_pos ⟨rfl, rfl⟩]
      have i1 := r.held_in eh
      have i2 := r.held_in ef
      have := same_yes hC f ((r.has h).trans eh) ((r.has f).trans ef)
      rw [r.at_ eh, r.at_ ef, show decide (plc G.ns (G.held h) = plc G.ns (G.held f)) = (G.held h == G.held f) by
        by_cases e : G.held h = G.held f
        · rw [e]; simp
        · rw [decide_eq_false fun q => e (plc_inj i1.1 i1.2 i2.1 i2.2 q)]; exact (beq_false_of_ne e).symm] at this
      exact this.mono fun _ _ ⟨h1, h2⟩ => ⟨h1, rfl, h2⟩

/-- Nil: entry 9. -/
theorem nil_rep (hC : Cr w b S s) (r : Rep s G) (h f : Int) :
    Calls Tryz.prog 36 #[ptr b, .int .i64 h] w fun e w' => e = .returned (.tuple #[.bool (G.ask 9 h f).2.1, .int .i64 (G.ask 9 h f).1]) ∧ (G.ask 9 h f).2.2 = (0, 0) ∧ w = w' := by
  unfold Gr.ask
  rw [if_neg (by omega), if_neg (by omega), if_neg (by omega), if_pos rfl]
  cases eh : G.has h
  · rw [if_neg Bool.false_ne_true]
    exact (nil_no h 3 (by omega) w (noH_no hC ((r.has h).trans eh))).mono fun _ _ ⟨h1, h2⟩ => ⟨h1, rfl, h2⟩
  · rw [if_pos rfl]
    have := nil_yes hC ((r.has h).trans eh)
    rw [show decide (s.at_ h = 0) = (G.held h == 0) by
      by_cases e : G.held h = 0
      · rw [decide_eq_true ((r.nil eh).2 e), e]; rfl
      · rw [decide_eq_false fun q => e ((r.nil eh).1 q)]; exact (beq_false_of_ne e).symm] at this
    exact this.mono fun _ _ ⟨h1, h2⟩ => ⟨h1, rfl, h2⟩
end
end Go.Proofs.YthmhehehomieiaaGreat

/- The statements' configurations: config. -/
namespace Go.Proofs.YthmhehehomieiaaGreat
open Go.RowKit

/-- The configuration that the statements draw. -/
def cfgOf (a b c d : Int) : Cfg where
  ha := a % 5 + 2
  nu := 24 + b % 60
  ps := b / 16 % 12 + 1
  pz := 16 + 16 * (a / 64)
  cd := (16 + 16 * (a / 64)) / (if c % 3 = 0 then 1 else if c % 3 = 1 then 2 else 4)
  bf := c / 4 % 4
  st := c / 16 % 4 + 1
  tn := c / 64 % 3 + 1
  lg := d % 8 + 1
  mi := d / 8 % 8
  ma := d / 64 * 2
  na := 12 + a % 8
  ja := b % 3 % 2

/-- A byte. -/
def By (a : Int) : Prop := 0 ≤ a ∧ a ≤ 255

/-- A divisor of the page. -/
def dvK (c : Int) : Int := if c % 3 = 0 then 1 else if c % 3 = 1 then 2 else 4
theorem dvK_in (c : Int) : dvK c = 1 ∨ dvK c = 2 ∨ dvK c = 4 := by unfold dvK; split <;> (try split) <;> simp
theorem dvK_wrap (c : Int) : wrap64 (2 ^ (c % 3).toNat) = dvK c := by
  unfold dvK
  have h : c % 3 = 0 ∨ c % 3 = 1 ∨ c % 3 = 2 := by omega
  rcases h with h | h | h <;> rw [h] <;> simp [wrap64]
theorem dvK_div (c x : Int) (x0 : 0 ≤ x) (x1 : x ≤ 100) : wrap64 (x.tdiv (dvK c)) = x / dvK c := by
  rcases dvK_in c with h | h | h <;> rw [h] <;> rw [Int.tdiv_eq_ediv_of_nonneg x0] <;> unfold wrap64 <;> omega

theorem cfgOf_may (a b c d : Int) (ha : By a) (hb : By b) (hc : By c) (hd : By d) : (cfgOf a b c d).May := by
  obtain ⟨a0, a1⟩ := ha
  obtain ⟨b0, b1⟩ := hb
  obtain ⟨c0, c1⟩ := hc
  obtain ⟨d0, d1⟩ := hd
  have e : (cfgOf a b c d).cd = (16 + 16 * (a / 64)) / dvK c := rfl
  constructor
  case cd0 => rw [e]; rcases dvK_in c with h | h | h <;> rw [h] <;> omega
  case cd1 =>
    rw [e]
    show (16 + 16 * (a / 64)).tmod _ = 0
    refine Int.tmod_eq_zero_of_dvd ?_
    rcases dvK_in c with h | h | h <;> rw [h]
    · rw [Int.ediv_one]; exact Int.dvd_refl _
    · exact ⟨2, by omega⟩
    · exact ⟨4, by omega⟩
  all_goals simp only [cfgOf]; omega

set_option maxHeartbeats 4000000 in
theorem config_any (a b c d : Int) (ha : By a) (hb : By b) (hc : By c) (hd : By d) (w : World) :
    Calls Tryz.prog 24 #[.int .u8 a, .int .u8 b, .int .u8 c, .int .u8 d] w fun e w' => e = .returned (cfgOf a b c d).v ∧ Below w.heap.size w w' := by
  obtain ⟨a0, a1⟩ := ha
  obtain ⟨b0, b1⟩ := hb
  obtain ⟨c0, c1⟩ := hc
  obtain ⟨d0, d1⟩ := hd
  have hk := dvK_wrap c
  have hd := dvK_div c (16 + 16 * (a / 64)) (by omega) (by omega)
  have k0 : ¬ dvK c = 0 := by rcases dvK_in c with h | h | h <;> rw [h] <;> omega
  have hE : (cfgOf a b c d).cd = (16 + 16 * (a / 64)) / dvK c := rfl
  have HE := Lib.hid hE
  clear hE
  go_enter Tryz.func24, Tryz.ntmps24
  go_wp2
  exact bodyPost_ret (v := (cfgOf a b c d).v) (by simp [results, Tryz.results24, go_sem]; exact ⟨rfl, rfl, rfl, rfl, HE.out.symm, rfl, rfl, rfl, rfl, rfl, rfl, rfl, rfl⟩) rfl ⟨rfl, (Below.refl _ _).alloc (Nat.le_refl _) _⟩
end Go.Proofs.YthmhehehomieiaaGreat

/- A core made since some world, which holds a graph, with the caller's blocks beside it. -/
namespace Go.Proofs.YthmhehehomieiaaGreat
open Go.RowKit

/-- Block b is a core made since w0, which holds the graph G; no block of Z is its own; what there was is as it was. -/
structure Kz (w0 w : World) (Z : Nat → Prop) (b : Nat) (s : Co) (G : Gr) : Prop where
  is : ∃ S, Cr w b S s ∧ ∀ k, S k → w0.heap.size ≤ k ∧ ¬ Z k
  rep : Rep s G
  bel : Below w0.heap.size w0 w
  low : ∀ k, Z k → w0.heap.size ≤ k ∧ k < w.heap.size

/-- The same, made so. -/
def Kg (w0 w : World) (Z : Nat → Prop) (b : Nat) (c : Cfg) (G : Gr) : Prop := ∃ s, Kz w0 w Z b s G ∧ s.cf = c

section
variable {w0 w w' : World} {Z Z' : Nat → Prop} {b : Nat} {s s' : Co} {c : Cfg} {G G' : Gr}

theorem Kz.write {T : Nat → Prop} (h : Kz w0 w Z b s G) (f : Frm T w w') (hs : ∀ k, k < w.heap.size → T k → Z k) (hz : ∀ k, Z' k → Z k ∨ (w.heap.size ≤ k ∧ k < w'.heap.size)) : Kz w0 w' Z' b s G := by
  obtain ⟨S, hC, ho⟩ := h.is
  refine ⟨⟨S, hC.frm (T := fun k => T k ∧ k < w.heap.size) ⟨f.os, f.tape, f.output, f.size, fun k hk hn => f.block k hk fun e => hn ⟨e, hk⟩⟩ fun k hk ht => (ho k hk).2 (hs k ht.2 ht.1), fun k hk => ⟨(ho k hk).1, fun hz' => ?_⟩⟩, h.rep, ?_, fun k hk => ?_⟩
  · rcases hz k hz' with e | e
    · exact (ho k hk).2 e
    · have := hC.lt hk; omega
  · refine Below.frm (S := fun k => T k ∧ k < w.heap.size) h.bel ⟨f.os, f.tape, f.output, f.size, fun k hk hn => f.block k hk fun e => hn ⟨e, hk⟩⟩ h.bel.size fun k hk ht => ?_
    have := (h.low k (hs k ht.2 ht.1)).1
    omega
  · rcases hz k hk with e | e
    · exact ⟨(h.low k e).1, Nat.lt_of_lt_of_le (h.low k e).2 f.size⟩
    · exact ⟨Nat.le_trans h.bel.size e.1, e.2⟩
theorem Kz.grow (h : Kz w0 w Z b s G) (f : Below w.heap.size w w') (hz : ∀ k, Z' k → Z k ∨ (w.heap.size ≤ k ∧ k < w'.heap.size)) : Kz w0 w' Z' b s G :=
  h.write (T := fun _ => False) (Frm.of_below f) (fun _ _ e => e.elim) hz
theorem Kz.keep (h : Kz w0 w Z b s G) (f : Below w.heap.size w w') : Kz w0 w' Z b s G := h.grow f fun _ => .inl

theorem Kz.step {S : Nat → Prop} (h : Kz w0 w Z b s G) (ho : ∀ k, S k → w0.heap.size ≤ k ∧ ¬ Z k) (r : CoR w b S s' w') (rep : Rep s' G') : Kz w0 w' Z b s' G' ∧ Kp Z w w' := by
  obtain ⟨S', hC, m⟩ := r
  refine ⟨⟨⟨S', hC, fun k hk => ?_⟩, rep, Below.frm h.bel m.frm h.bel.size fun k hk e => ?_, fun k hk => ⟨(h.low k hk).1, Nat.lt_of_lt_of_le (h.low k hk).2 m.frm.size⟩⟩, m.frm.mono fun k _ hk hz => (ho k hk).2 hz⟩
  · rcases m.at_ k hk with e | e
    · exact ho k e
    · exact ⟨Nat.le_trans h.bel.size e, fun hz => by have := (h.low k hz).2; omega⟩
  · have := (ho k e).1; omega

theorem Kz.act {P : Program} {fn : FuncId} {args : Array Value} {R : Ending → Prop} {E : Int} (h : Kz w0 w Z b s G) (c : ∀ S, Cr w b S s → Calls P fn args w fun e w' => R e ∧ Act13 w b S s E G' w') :
    Calls P fn args w fun e w' => R e ∧ ∃ s', Kz w0 w' Z b s' G' ∧ Kp Z w w' ∧ s'.cf = s.cf ∧ (E ≠ 0 → s' = s) := by
  obtain ⟨S, hC, ho⟩ := h.is
  exact (c S hC).mono fun e w' ⟨r, s', k, q, e1, e2⟩ => ⟨r, s', (h.step ho k q).1, (h.step ho k q).2, e1, e2⟩

/-- A call that leaves the core as it is. -/
theorem Kz.look {P : Program} {fn : FuncId} {args : Array Value} {R : Ending → Prop} (h : Kz w0 w Z b s G) (c : ∀ S, Cr w b S s → Calls P fn args w fun e w' => R e ∧ CoR w b S s w') :
    Calls P fn args w fun e w' => R e ∧ Kz w0 w' Z b s G ∧ Kp Z w w' := by
  obtain ⟨S, hC, ho⟩ := h.is
  exact (c S hC).mono fun e w' ⟨r, k⟩ => ⟨r, h.step ho k h.rep⟩

theorem Kg.keep (h : Kg w0 w Z b c G) (f : Below w.heap.size w w') : Kg w0 w' Z b c G := let ⟨s, k, e⟩ := h; ⟨s, k.keep f, e⟩
theorem Kg.grow (h : Kg w0 w Z b c G) (f : Below w.heap.size w w') (hz : ∀ k, Z' k → Z k ∨ (w.heap.size ≤ k ∧ k < w'.heap.size)) : Kg w0 w' Z' b c G := let ⟨s, k, e⟩ := h; ⟨s, k.grow f hz, e⟩
theorem Kg.write {T : Nat → Prop} (h : Kg w0 w Z b c G) (f : Frm T w w') (hs : ∀ k, k < w.heap.size → T k → Z k) (hz : ∀ k, Z' k → Z k ∨ (w.heap.size ≤ k ∧ k < w'.heap.size)) : Kg w0 w' Z' b c G := let ⟨s, k, e⟩ := h; ⟨s, k.write f hs hz, e⟩
theorem Kg.bel (h : Kg w0 w Z b c G) : Below w0.heap.size w0 w := h.choose_spec.1.bel
theorem Kg.low (h : Kg w0 w Z b c G) : ∀ k, Z k → w0.heap.size ≤ k ∧ k < w.heap.size := h.choose_spec.1.low

theorem Kg.act {P : Program} {fn : FuncId} {args : Array Value} {R : Ending → Prop} {E : Int} {G' : Gr} (h : Kg w0 w Z b c G) (q : ∀ S s, s.cf = c → Cr w b S s → Rep s G → Calls P fn args w fun e w' => R e ∧ Act13 w b S s E G' w') :
    Calls P fn args w fun e w' => R e ∧ Kg w0 w' Z b c G' ∧ Kp Z w w' := by
  obtain ⟨s, k, rfl⟩ := h
  exact (k.act fun S hC => q S s rfl hC k.rep).mono fun e w' ⟨r, s', k', p, e1, _⟩ => ⟨r, ⟨s', k', e1⟩, p⟩
theorem Kg.look {P : Program} {fn : FuncId} {args : Array Value} {R : Ending → Prop} (h : Kg w0 w Z b c G) (q : ∀ S s, s.cf = c → Cr w b S s → Rep s G → Calls P fn args w fun e w' => R e ∧ CoR w b S s w') :
    Calls P fn args w fun e w' => R e ∧ Kg w0 w' Z b c G ∧ Kp Z w w' := by
  obtain ⟨s, k, rfl⟩ := h
  exact (k.look fun S hC => q S s rfl hC k.rep).mono fun e w' ⟨r, k', p⟩ => ⟨r, ⟨s, k', rfl⟩, p⟩

/-- A new core. -/
def Gr.none_ (c : Cfg) : Gr := ⟨[], zeros c.ha, c.lg⟩

theorem cellsP_free (F G : Int) (n : Nat) : cellsP F G (List.replicate n Pg.free) = [] := by
  unfold cellsP
  rw [List.flatMap_eq_nil_iff]
  intro i hi
  rw [List.length_replicate] at hi
  rw [List.getD_eq_getElem?_getD, List.getElem?_replicate, if_pos (by simpa using hi)]
  rfl

theorem rep_fresh (hm : c.May) {pt : Pts} : Rep (Co.fresh c pt) (Gr.none_ c) where
  calm := ⟨rfl, rfl, rfl, rfl, cellsP_free _ _ _⟩
  par := rfl
  hs := by
    show zeros c.ha = (zeros c.ha).map (plc [])
    unfold zeros
    rw [List.map_replicate]
    rfl
  lg := rfl
  use := rfl
  d := rfl
  lay := by
    have e := hm.words
    have := hm.nu0
    refine ⟨fun i n h => (by cases h), fun i n h => (by cases h), ?_⟩
    show 1 + 0 ≤ (List.replicate c.words.toNat (0 : Int)).length
    rw [List.length_replicate]
    unfold Cfg.words
    omega
  hin := fun h hh => by
    obtain rfl := (List.mem_replicate.1 hh).2
    exact ⟨by omega, by omega⟩
  wl := by
    have e := hm.words
    have := hm.nu0
    show ((List.replicate c.words.toNat (0 : Int)).length : Int) = c.words
    rw [List.length_replicate]
    unfold Cfg.words
    omega
  gx := rfl
  ry := rfl
  rn := by
    show (List.replicate _ false).count true = 0
    exact List.count_eq_zero.2 fun h => by cases (List.mem_replicate.1 h).2
  room := by have := hm.nu0; show (0 : Int) ≤ c.nu; omega
  small := fun n h => by cases h

theorem kz_new (hm : c.May) (bel : Below w0.heap.size w0 w) (low : ∀ k, Z k → w0.heap.size ≤ k ∧ k < w.heap.size) :
    Calls Tryz.prog 19 #[c.v] w fun e w' => ∃ b pt, e = .returned (.tuple #[ptr b, .int .i64 0]) ∧ Kz w0 w' Z b (Co.fresh c pt) (Gr.none_ c) ∧ Kp Z w w' :=
  (coNew_yes c w hm).mono fun _ _ ⟨b, S, pt, he, hC, hb, ho⟩ => ⟨b, pt, he, ⟨⟨S, hC, fun k hk => ⟨Nat.le_trans bel.size (ho k hk), fun hz => by have := (low k hz).2; have := ho k hk; omega⟩⟩, rep_fresh hm, below_trans bel hb, fun k hk => ⟨(low k hk).1, Nat.lt_of_lt_of_le (low k hk).2 hb.size⟩⟩, Kp.of_below hb⟩
theorem kg_new (hm : c.May) (bel : Below w0.heap.size w0 w) (low : ∀ k, Z k → w0.heap.size ≤ k ∧ k < w.heap.size) :
    Calls Tryz.prog 19 #[c.v] w fun e w' => ∃ b, e = .returned (.tuple #[ptr b, .int .i64 0]) ∧ Kg w0 w' Z b c (Gr.none_ c) ∧ Kp Z w w' :=
  (kz_new hm bel low).mono fun _ _ ⟨b, _, he, k, p⟩ => ⟨b, he, ⟨_, k, rfl⟩, p⟩

/-! The entries, by a core that was made so. -/

theorem kg_make (h : Kg w0 w Z b c G) (a p q : Int) (q1 : q ≤ 9223372036854775807) :
    Calls Tryz.prog 33 #[ptr b, .int .i64 a, .int .i64 p, .int .i64 q] w fun e w' => e = .returned (.int .i64 (stE c.nu G 1 a p q 0)) ∧ Kg w0 w' Z b c (stG c.nu G 1 a p q 0) ∧ Kp Z w w' :=
  h.act (E := stE c.nu G 1 a p q 0) fun _ _ e hC r => by have := make_rep hC r a p q 0 q1; rwa [e] at this
theorem kg_get (h : Kg w0 w Z b c G) (d a n : Int) :
    Calls Tryz.prog 35 #[ptr b, .int .i64 d, .int .i64 a, .int .i64 n] w fun e w' => e = .returned (.int .i64 (G.change 2 d a n 0).1) ∧ Kg w0 w' Z b c (G.change 2 d a n 0).2 ∧ Kp Z w w' :=
  h.act (E := (G.change 2 d a n 0).1) fun _ _ _ hC r => get_rep hC r d a n 0
theorem kg_set (h : Kg w0 w Z b c G) (a n f : Int) :
    Calls Tryz.prog 41 #[ptr b, .int .i64 a, .int .i64 n, .int .i64 f] w fun e w' => e = .returned (.int .i64 (G.change 3 a n f 0).1) ∧ Kg w0 w' Z b c (G.change 3 a n f 0).2 ∧ Kp Z w w' :=
  h.act (E := (G.change 3 a n f 0).1) fun _ _ _ hC r => set_rep hC r a n f 0
theorem kg_write (h : Kg w0 w Z b c G) (a n v : Int) :
    Calls Tryz.prog 40 #[ptr b, .int .i64 a, .int .i64 n, .int .u64 v] w fun e w' => e = .returned (.int .i64 (G.change 5 a n 0 v).1) ∧ Kg w0 w' Z b c (G.change 5 a n 0 v).2 ∧ Kp Z w w' :=
  h.act (E := (G.change 5 a n 0 v).1) fun _ _ _ hC r => write_rep hC r a n 0 v
theorem kg_clear (h : Kg w0 w Z b c G) (a : Int) :
    Calls Tryz.prog 44 #[ptr b, .int .i64 a] w fun e w' => e = .returned (.int .i64 (G.change 6 a 0 0 0).1) ∧ Kg w0 w' Z b c (G.change 6 a 0 0 0).2 ∧ Kp Z w w' :=
  h.act (E := (G.change 6 a 0 0 0).1) fun _ _ _ hC r => clear_rep hC r a 0 0 0
theorem kg_copy (h : Kg w0 w Z b c G) (d f : Int) :
    Calls Tryz.prog 42 #[ptr b, .int .i64 d, .int .i64 f] w fun e w' => e = .returned (.int .i64 (G.change 7 d f 0 0).1) ∧ Kg w0 w' Z b c (G.change 7 d f 0 0).2 ∧ Kp Z w w' :=
  h.act (E := (G.change 7 d f 0 0).1) fun _ _ _ hC r => coCopy_rep hC r d f 0 0
theorem kg_read (h : Kg w0 w Z b c G) (a n : Int) :
    Calls Tryz.prog 37 #[ptr b, .int .i64 a, .int .i64 n] w fun e w' => e = .returned (.tuple #[.int .u64 (G.ask 4 a n).2.2.2, .int .i64 (G.ask 4 a n).1]) ∧ Kg w0 w' Z b c G ∧ Kp Z w w' :=
  h.look fun _ _ _ hC r => (read_rep hC r a n).mono fun _ _ ⟨h1, _, _, h2⟩ => ⟨h1, h2⟩
theorem kg_shape (h : Kg w0 w Z b c G) (a : Int) :
    Calls Tryz.prog 34 #[ptr b, .int .i64 a] w fun e w' => e = .returned (.tuple #[.int .i64 (G.ask 10 a 0).2.2.1, .int .i64 (G.ask 10 a 0).2.2.2, .int .i64 (G.ask 10 a 0).1]) ∧ Kg w0 w' Z b c G ∧ Kp Z w w' :=
  h.look fun _ _ _ hC r => (shape_rep hC r a 0).mono fun _ _ ⟨h1, _, h2⟩ => ⟨h1, h2⟩
theorem kg_same (h : Kg w0 w Z b c G) (a f : Int) :
    Calls Tryz.prog 43 #[ptr b, .int .i64 a, .int .i64 f] w fun e w' => e = .returned (.tuple #[.bool (G.ask 8 a f).2.1, .int .i64 (G.ask 8 a f).1]) ∧ w = w' := by
  obtain ⟨s, k, _⟩ := h
  obtain ⟨S, hC, _⟩ := k.is
  exact (same_rep hC k.rep a f).mono fun _ _ ⟨h1, _, h2⟩ => ⟨h1, h2⟩
theorem kg_nil (h : Kg w0 w Z b c G) (a : Int) :
    Calls Tryz.prog 36 #[ptr b, .int .i64 a] w fun e w' => e = .returned (.tuple #[.bool (G.ask 9 a 0).2.1, .int .i64 (G.ask 9 a 0).1]) ∧ w = w' := by
  obtain ⟨s, k, _⟩ := h
  obtain ⟨S, hC, _⟩ := k.is
  exact (nil_rep hC k.rep a 0).mono fun _ _ ⟨h1, _, h2⟩ => ⟨h1, h2⟩
theorem kg_stats (h : Kg w0 w Z b c G) :
    Calls Tryz.prog 20 #[ptr b] w fun e w' => e = .returned (stV8 G.ns.length (tot G.ns) 0 0 0 (tot G.ns) 0 (c.ps * c.pz)) ∧ Below w.heap.size w w' := by
  obtain ⟨s, k, rfl⟩ := h
  obtain ⟨S, hC, _⟩ := k.is
  have u := k.rep.calm.used
  have := stats_any hC (by omega) (by omega)
  rw [u, k.rep.calm.left, k.rep.use, k.rep.d, Int.add_zero, Int.sub_zero] at this
  exact this
end
end Go.Proofs.YthmhehehomieiaaGreat

/- The walks of awake and of CoreNone. -/
namespace Go.Proofs.YthmhehehomieiaaGreat
open Go.RowKit

abbrev awC : Cfg := cfgOf 3 40 80 20
def aw0 : Gr := Gr.none_ awC
def aw1 : Gr := stG awC.nu aw0 1 0 1 2 0
def aw2 : Gr := stG awC.nu aw1 1 1 0 1 0
def aw3 : Gr := (aw2.change 3 0 0 1 0).2
def aw4 : Gr := (aw3.change 5 0 1 0 77).2
def aw5 : Gr := (aw4.change 2 2 0 0 0).2
theorem aw_1 : stE awC.nu aw0 1 0 1 2 0 = 0 := by decide
theorem aw_2 : stE awC.nu aw1 1 1 0 1 0 = 0 := by decide
theorem aw_3 : (aw2.change 3 0 0 1 0).1 = 0 := by decide
theorem aw_4 : (aw3.change 5 0 1 0 77).1 = 0 := by decide
theorem aw_5 : (aw4.change 2 2 0 0 0).1 = 0 := by decide
theorem aw_6 : aw5.ask 4 0 1 = (0, false, 0, 77) := by decide
theorem aw_7 : aw5.ask 8 1 2 = (0, true, 0, 0) := by decide
theorem aw_8 : aw5.ask 10 0 0 = (0, false, 1, 2) := by decide
theorem aw_9 : (aw5.change 3 0 1 1 0).1 = 5 := by decide
theorem aw_9' : (aw5.change 3 0 1 1 0).2 = aw5 := rfl
theorem aw_10 : (aw5.change 2 0 3 0 0).1 = 4 := by decide
theorem aw_10' : (aw5.change 2 0 3 0 0).2 = aw5 := rfl
theorem aw_11 : (aw5.change 6 99 0 0 0).1 = 3 := by decide
theorem aw_11' : (aw5.change 6 99 0 0 0).2 = aw5 := rfl
theorem aw_12 : (tot aw5.ns : Int) = 8 := by decide

theorem stat_young (a c d e f y o r : Int) (w : World) : (Instr.field 31 (stV8 a c d e f y o r) 5).run Tryz.prog w = .ok (.int .i64 y) w := by kernel_rfl

set_option maxHeartbeats 8000000 in
set_option maxRecDepth 100000 in
theorem awake13_walk (w : World) : Calls Tryz.prog 18 #[] w fun e w' => e = .returned (.bool true) ∧ Below w.heap.size w w' := by
  have by_ : ∀ n : Int, 0 ≤ n → n ≤ 255 → By n := fun n h0 h1 => ⟨h0, h1⟩
  have HM := Lib.hid (cfgOf_may 3 40 80 20 (by_ _ (by omega) (by omega)) (by_ _ (by omega) (by omega)) (by_ _ (by omega) (by omega)) (by_ _ (by omega) (by omega)))
  have HC := Lib.hid (config_any 3 40 80 20 (by_ _ (by omega) (by omega)) (by_ _ (by omega) (by omega)) (by_ _ (by omega) (by omega)) (by_ _ (by omega) (by omega)) w)
  clear by_
  go_enter Tryz.func18, Tryz.ntmps18
  go_wp2_with fail
  refine HC.out.mono ?_
  rintro e w1 ⟨rfl, b1⟩
  have HN := Lib.hid (kg_new (w0 := w) (Z := noZ) HM.out b1 (fun _ e => e.elim))
  clear b1 HC
  go_wp2_with fail
  refine HN.out.mono ?_
  rintro e w2 ⟨b, rfl, k2, _⟩
  have K2 := Lib.hid (show Kg w w2 noZ b awC aw0 from k2)
  clear k2 HN
  go_wp2_with fail
  have h := kg_make K2.out 0 1 2 (by omega)
  rw [aw_1] at h
  refine h.mono ?_
  rintro e w3 ⟨rfl, k3, _⟩
  have K3 := Lib.hid (show Kg w w3 noZ b awC aw1 from k3)
  clear k3 h K2
  go_wp2_with fail
  have h := kg_make K3.out 1 0 1 (by omega)
  rw [aw_2] at h
  refine h.mono ?_
  rintro e w4 ⟨rfl, k4, _⟩
  have K4 := Lib.hid (show Kg w w4 noZ b awC aw2 from k4)
  clear k4 h K3
  go_wp2_with fail
  have h := kg_set K4.out 0 0 1
  rw [aw_3] at h
  refine h.mono ?_
  rintro e w5 ⟨rfl, k5, _⟩
  have K5 := Lib.hid (show Kg w w5 noZ b awC aw3 from k5)
  clear k5 h K4
  go_wp2_with fail
  have h := kg_write K5.out 0 1 77
  rw [aw_4] at h
  refine h.mono ?_
  rintro e w6 ⟨rfl, k6, _⟩
  have K6 := Lib.hid (show Kg w w6 noZ b awC aw4 from k6)
  clear k6 h K5
  go_wp2_with fail
  have h := kg_get K6.out 2 0 0
  rw [aw_5] at h
  refine h.mono ?_
  rintro e w7 ⟨rfl, k7, _⟩
  have K7 := Lib.hid (show Kg w w7 noZ b awC aw5 from k7)
  clear k7 h K6
  go_wp2_with fail
  have h := kg_read K7.out 0 1
  rw [aw_6] at h
  refine h.mono ?_
  rintro e w8 ⟨rfl, k8, _⟩
  have K8 := Lib.hid k8
  clear k8 h K7
  go_wp2_with fail
  have h := kg_same K8.out 1 2
  rw [aw_7] at h
  refine h.mono ?_
  rintro e w9 ⟨rfl, rfl⟩
  clear h
  go_wp2_with fail
  have h := kg_shape K8.out 0
  rw [aw_8] at h
  refine h.mono ?_
  rintro e w10 ⟨rfl, k10, _⟩
  have K10 := Lib.hid k10
  clear k10 h K8
  go_wp2_with fail
  have h := kg_set K10.out 0 1 1
  rw [aw_9, aw_9'] at h
  refine h.mono ?_
  rintro e w11 ⟨rfl, k11, _⟩
  have K11 := Lib.hid k11
  clear k11 h K10
  go_wp2_with fail
  have h := kg_get K11.out 0 3 0
  rw [aw_10, aw_10'] at h
  refine h.mono ?_
  rintro e w12 ⟨rfl, k12, _⟩
  have K12 := Lib.hid k12
  clear k12 h K11
  go_wp2_with fail
  have h := kg_clear K12.out 99
  rw [aw_11, aw_11'] at h
  refine h.mono ?_
  rintro e w13 ⟨rfl, k13, _⟩
  have K13 := Lib.hid k13
  clear k13 h K12
  go_wp2_with fail
  have h := kg_stats K13.out
  rw [aw_12] at h
  generalize (aw5.ns.length : Int) = p at h
  generalize awC.ps * awC.pz = q at h
  refine h.mono ?_
  rintro e w14 ⟨rfl, b14⟩
  have B := Lib.hid (below_trans K13.out.bel b14)
  clear b14 h K13
  have hst := stat_young p 8 0 0 0 8 0 q w14
  go_wp2
  go_ret
  exact ⟨rfl, B.out⟩
end Go.Proofs.YthmhehehomieiaaGreat

/- A number as an argument fits its kind. -/
namespace Go.Proofs.YthmhehehomieiaaGreat

theorem bounds_int {k : IntKind} {n : Int} (h : (Lit.int k n).wf = true) : k.min ≤ n ∧ n ≤ k.max := by
  simpa [Lit.wf] using h
end Go.Proofs.YthmhehehomieiaaGreat

/- A slice of numbers of any kind as an argument, and as it is read later; a slice of structs as an argument. -/
namespace Go.Proofs.YthmhehehomieiaaGreat
open Go.RowKit Go.ChangeShapes Go.WideShapes Go.Deep

/-- A slice of numbers from lo to hi as it came in: nil let in. -/
def RdN (k : IntKind) (lo hi : Int) (w : World) (A : Option Addr) (n : Nat) : Prop :=
  ∀ i, i < n → ∃ ad x, A = some ad ∧ lo ≤ x ∧ x ≤ hi ∧ ∀ w', Below w.heap.size w w' → w'.cell? (ad.add i) = some (.int k x)

theorem open_nums {H : Type} {enc : TypeId × Value → H} {P : Program} {w : World} {r : Reach} {b0 : Nat} {t e : TypeId} {k : IntKind} {v : Value} {d : DataW H} {ps : List MemPlace} (lo hi : Int)
    (ht : P.underlying t = some (.slice e)) (he : P.underlying e = some (.int k)) (hc : P.cellsOf e = 1) (hlo : k.min = lo) (hhi : k.max = hi) (hv : Value.okWide P w r b0 t v) (h : DataW.Trod enc P w 0 (fun _ => true) true t v d ps) :
    ∃ A n c, v = .slice A n c ∧ n ≤ c ∧ c ≤ maxLen ∧ RdN k lo hi w A n := by
  obtain ⟨A, n, c, xs, rfl, nc, cm, rd, wf⟩ := open_rd ht he hc hv h
  refine ⟨A, n, c, rfl, nc, cm, fun i hi' => ?_⟩
  have hl := rd.1
  have hx : xs[i]? = some (xs[i]'(by omega)) := List.getElem?_eq_getElem (by omega)
  obtain ⟨ad, e, hb, hc⟩ := rd.2 i _ hx
  have k := bounds_int (wf _ (List.mem_of_getElem? hx))
  exact ⟨ad, _, e, by rw [← hlo]; exact k.1, by rw [← hhi]; exact k.2, fun w' hb' => (hb'.cell (p := ad.add i) (by rw [block_of_add]; exact hb)).trans hc⟩

section
variable {H : Type} {enc : TypeId × Value → H} {P : Program} {w : World} {base : Nat} {spare : Nat → Bool} {held : Bool}
/-- A slice of structs whose fields take one cell each: the cells of each, with each field's own reading. -/
theorem open_structs {r : Reach} {b0 : Nat} {t e : TypeId} {fs : Array Field} {v : Value} {d : DataW H} {ps : List MemPlace} (ht : P.underlying t = some (.slice e)) (he : P.underlying e = some (.struct fs))
    (hone : oneCellFields P fs = true) (hC : P.cellsOf e = fs.size) (hv : Value.okWide P w r b0 t v) (h : DataW.Trod enc P w base spare held t v d ps) :
    ∃ A n c, v = .slice A n c ∧ n ≤ c ∧ c ≤ maxLen ∧ ∀ i, i < n → ∃ a m, A = some a ∧ ∀ (j : Nat) (f : Field), fs[j]? = some f → ∃ (x : Value) (y : DataW H × List MemPlace), w.cell? (a.add (i * fs.size + j)) = some x ∧ DataW.trod enc P w base spare held m f.type [x] = some y := by
  obtain ⟨A, n, c, rfl⟩ := okWide_slice ht hv
  obtain ⟨fuel, hf⟩ := h
  rcases open_slice ht hf with ⟨h0, _⟩ | ⟨a, len, cap, m, nn, D, Pl, hcs, _, hl, hm, hmm, _, hi⟩
  · simp [Value.cells] at h0
    obtain ⟨rfl, rfl, rfl⟩ := h0
    exact ⟨none, 0, 0, rfl, Nat.le_refl _, Nat.zero_le _, fun i hi => absurd hi (by omega)⟩
  · simp [Value.cells] at hcs
    obtain ⟨rfl, rfl, rfl⟩ := hcs
    refine ⟨some a, n, c, rfl, hl, hm, fun i hin => ?_⟩
    have him : i < m := by rw [hmm]; split <;> omega
    obtain ⟨cs', hc, ht'⟩ := hi i him
    rw [hC] at hc
    obtain ⟨ys, n', _, _, hlen, hyl, hff⟩ := DataW.trod_struct he ht'
    obtain ⟨_, hcl, hat⟩ := World.cells?_some hc
    refine ⟨a, n', rfl, fun j f hj => ?_⟩
    obtain ⟨ho, hk⟩ := hone_of hone j f hj
    have hjl : j < fs.size := (Array.getElem?_eq_some_iff.1 hj).1
    have hcell := hat j hjl
    have hvj : cs'[j]? = some (cs'[j]'(by omega)) := List.getElem?_eq_getElem (by omega)
    have h1 := hff j f hj
    rw [ho, hk] at h1
    have hone' : (cs'.drop j).take 1 = [cs'[j]'(by omega)] := by
      rw [List.drop_eq_getElem_cons (by omega)]
      rfl
    rw [hone'] at h1
    have hys : ys[j]? = some (ys[j]'(by omega)) := List.getElem?_eq_getElem (by omega)
    exact ⟨_, _, by rw [← Go.Deep.add_add, hcell, hvj], h1.trans hys⟩
end

theorem add_more (a : Addr) (i j : Nat) (hj : j ≠ 0) : a.add (i + j) = ⟨(a.add i).block, (a.add i).off + j, none⟩ := by
  unfold Addr.add
  by_cases hi : i = 0
  · subst hi; simp [hj]
  · simp [hi, Nat.add_assoc]

/-- A slice of two numbers each, as it came in: nil let in. -/
def RdA (w : World) (A : Option Addr) (n : Nat) : Prop :=
  ∀ i, i < n → ∃ ad x0 x1, A = some ad ∧ -9223372036854775808 ≤ x1 ∧ x1 ≤ 9223372036854775807 ∧
    ∀ w', Below w.heap.size w w' → w'.cell? (ad.add (i * 2)) = some (.int .i64 x0) ∧ w'.cell? ⟨(ad.add (i * 2)).block, (ad.add (i * 2)).off + 1, none⟩ = some (.int .i64 x1)

theorem open_pairs {H : Type} {enc : TypeId × Value → H} {P : Program} {w : World} {base : Nat} {spare : Nat → Bool} {held : Bool} {r : Reach} {b0 : Nat} {t e ti : TypeId} {f0 f1 : Field} {v : Value} {d : DataW H} {p : List MemPlace}
    (ht : P.underlying t = some (.slice e)) (he : P.underlying e = some (.struct #[f0, f1])) (hone : oneCellFields P #[f0, f1] = true) (hC : P.cellsOf e = 2) (hi : P.underlying ti = some (.int .i64)) (h0 : f0.type = ti) (h1 : f1.type = ti)
    (hv : Value.okWide P w r b0 t v) (h : DataW.Trod enc P w base spare held t v d p) :
    ∃ A n c, v = .slice A n c ∧ n ≤ c ∧ c ≤ maxLen ∧ RdA w A n := by
  obtain ⟨A, n, c, rfl, hn, hc, hj⟩ := open_structs ht he hone hC hv h
  refine ⟨A, n, c, rfl, hn, hc, fun i hin => ?_⟩
  obtain ⟨a, m, rfl, hf⟩ := hj i hin
  obtain ⟨v0, y0, e0, t0⟩ := hf 0 f0 rfl
  obtain ⟨v1, y1, e1, t1⟩ := hf 1 f1 rfl
  obtain ⟨n0, k0, _, _⟩ := DataW.trod_int (by rw [h0]; exact hi) t0
  obtain ⟨n1, k1, _, w1⟩ := DataW.trod_int (by rw [h1]; exact hi) t1
  simp only [List.cons.injEq, and_true] at k0 k1
  subst k0 k1
  have kb : -9223372036854775808 ≤ n1 ∧ n1 ≤ 9223372036854775807 := bounds_int w1
  have hlt : a.block < w.heap.size := by have := cell_lt e0; rwa [block_of_add] at this
  change w.cell? (a.add (i * 2 + 0)) = _ at e0
  change w.cell? (a.add (i * 2 + 1)) = _ at e1
  rw [Nat.add_zero] at e0
  rw [add_more _ _ _ (by omega)] at e1
  have eb : (a.add (i * 2)).block = a.block := by unfold Addr.add; split <;> rfl
  exact ⟨a, n0, n1, rfl, kb.1, kb.2, fun w' hb => ⟨(hb.cell (p := a.add (i * 2)) (by rw [eb]; exact hlt)).trans e0, (hb.cell (p := ⟨(a.add (i * 2)).block, (a.add (i * 2)).off + 1, none⟩) (by rw [eb]; exact hlt)).trans e1⟩⟩
end Go.Proofs.YthmhehehomieiaaGreat

/- Contracts of the document's graph: has, wrong, New. -/
namespace Go.Proofs.YthmhehehomieiaaGreat
open Go.RowKit

section
variable {w : World} {g : Nat} {S : Nat → Prop} {G : Gr}

/-- A handle that there is, and what it holds. -/
theorem Rg.at_ (h : Rg w g S G) {a : Int} (ha : G.has a = true) : ∃ (i : Nat) (x : Int), a = i ∧ i < G.hs.length ∧ G.hs[i]? = some x ∧ G.held a = x ∧ 0 ≤ x ∧ x ≤ G.ns.length := by
  obtain ⟨vN, hA, hc, nd, hi, e, rfl⟩ := h
  unfold Gr.has at ha
  simp at ha
  obtain ⟨i, rfl⟩ : ∃ i : Nat, a = i := ⟨a.toNat, by omega⟩
  have hl : i < G.hs.length := by omega
  have hx := List.getElem?_eq_getElem hl
  have hin := hi.hin _ (List.mem_of_getElem? hx)
  refine ⟨i, _, rfl, hl, hx, ?_, hin.1, ?_⟩
  · unfold Gr.held
    rw [Int.toNat_natCast, List.getD_eq_getElem?_getD, hx]; rfl
  · rw [e, List.length_map]; exact hin.2
end

set_option maxHeartbeats 1000000 in
theorem rgHas_any (w : World) (g : Nat) (S : Nat → Prop) (G : Gr) (h : Int) (r : Rg w g S G) :
    Calls Tryz.prog 73 #[.pointer (some ⟨g, 0, none⟩), .int .i64 h] w fun e w' => e = .returned (.bool (G.has h)) ∧ w = w' := by
  obtain ⟨vN, hA, hc, nd, hi, _, _⟩ := r
  have c1 : w.cell? ⟨g, 1, none⟩ = some (.slice hA G.hs.length hc) := hi.blk.cell 1
  clear hi
  unfold Gr.has
  generalize G.hs.length = n at c1 ⊢
  by_cases h0 : 0 ≤ h
  · have d0 : decide (0 ≤ h) = true := decide_eq_true h0
    go_enter Tryz.func73, Tryz.ntmps73
    go_wp2
    all_goals
      go_ret
      exact ⟨by first | rfl | exact ret_bool (by simp [h0]) | exact ret_bool (by simp; omega), rfl⟩
  · have d0 : decide (0 ≤ h) = false := decide_eq_false h0
    go_enter Tryz.func73, Tryz.ntmps73
    go_wp2
    all_goals
      go_ret
      exact ⟨by first | rfl | exact ret_bool (by simp [h0]) | exact ret_bool (by simp; omega), rfl⟩

set_option maxHeartbeats 1000000 in
theorem rgWrong_any (w : World) (g : Nat) (S : Nat → Prop) (G : Gr) (h : Int) (r : Rg w g S G) :
    Calls Tryz.prog 72 #[.pointer (some ⟨g, 0, none⟩), .int .i64 h] w fun e w' => e = .returned (.int .i64 (G.wrong h)) ∧ w = w' := by
  have HH := Lib.hid (rgHas_any w g S G h r)
  cases hb : G.has h
  · have HW := Lib.hid (show G.wrong h = 3 from by simp [Gr.wrong, hb])
    rw [hb] at HH
    clear r hb
    go_enter Tryz.func72, Tryz.ntmps72
    go_wp2_with fail
    refine HH.out.mono ?_
    rintro e w1 ⟨rfl, rfl⟩
    go_wp2
    go_ret
    exact ⟨ret_int HW.out.symm, rfl⟩
  · obtain ⟨i, x, rfl, hl, hx, hv, x0, x1⟩ := r.at_ hb
    have HW := Lib.hid (show G.wrong i = if x = 0 then 4 else 0 from by simp [Gr.wrong, hb, hv])
    obtain ⟨vN, hA, hc, nd, hi, _, _⟩ := r
    have c1 : w.cell? ⟨g, 1, none⟩ = some (.slice hA G.hs.length hc) := hi.blk.cell 1
    obtain ⟨q, off, rfl, _, hcx, _⟩ := hi.hrow.at_ (by omega)
    have cx := hcx i x hx
    have hf := hi.hfew
    rw [hb] at HH
    clear hi hcx hv hx hb
    generalize G.hs.length = n at c1 hl hf ⊢
    by_cases z : x = 0
    · subst z
      rw [if_pos rfl] at HW
      go_enter Tryz.func72, Tryz.ntmps72
      go_wp2_with fail
      refine HH.out.mono ?_
      rintro e w1 ⟨rfl, rfl⟩
      go_wp2
      go_ret
      exact ⟨ret_int HW.out.symm, rfl⟩
    · rw [if_neg z] at HW
      go_enter Tryz.func72, Tryz.ntmps72
      go_wp2_with fail
      refine HH.out.mono ?_
      rintro e w1 ⟨rfl, rfl⟩
      go_wp2
      go_ret
      exact ⟨ret_int HW.out.symm, rfl⟩

theorem info_node : (Tryz.prog.info? 120).map (fun i => (i.zero, i.size, i.bytes)) = some (some (.agg #[.slice none 0 0, .slice none 0 0]), 2, 48) := by kernel_rfl

theorem run_make_node (w : World) :
    (Instr.makeSlice 115 (.int .i64 1) (.int .i64 1)).run Tryz.prog w = .ok (.slice (some ⟨w.heap.size, 0, none⟩) 1 1) (w.alloc (.cells #[.slice none 0 0, .slice none 0 0] 120)) := by
  obtain ⟨i, hi, hz, hs, hb⟩ := info_parts info_node
  have h := run_make (P := Tryz.prog) w 115 120 i _ Tryz.underlying115 hi hz .i64 .i64 1 1 (by decide) (Int.le_refl _) (by rw [hb]; decide) (by decide)
  rw [hs] at h
  have e : madeCells (Value.agg #[.slice none 0 0, .slice none 0 0]).cells (Int.toNat 1 * 2) = #[.slice none 0 0, .slice none 0 0] := by
    apply Array.ext
    · simp [madeCells]
    · intro i h1 h2
      have hi : i < 2 := by simpa using h2
      match i, hi with
      | 0, _ => simp [madeCells, Value.cells]
      | 1, _ => simp [madeCells, Value.cells]
  rw [e] at h
  exact h

/-- How many handles there are. -/
def nhI (h : Int) : Nat := (min (max h 0) 64).toNat

/-- A graph that was just made. -/
def Gr.new (h l : Int) : Gr := ⟨[], List.replicate (nhI h) 0, cutI l 0 64⟩

theorem rep_snoc (i : Nat) : List.replicate i (0 : Int) ++ [0] = List.replicate (i + 1) 0 := by
  rw [List.replicate_succ']

theorem IsG.setHs {w : World} {g : Nat} {vN : Value} {hA hA' : Option Addr} {hc hc' : Nat} {nd : List Nd} {hs hs' : List Int} {lg : Int} (h : IsG w g vN hA hc nd hs lg) {w' : World} (gr : Grw hA hA' w w') (q : Qu w' hA' hs'.length hc' hs')
    (hin : ∀ x ∈ hs', 0 ≤ x ∧ x ≤ nd.length) (hf : hs'.length ≤ 64) :
    IsG (w'.setCell ⟨g, 1, none⟩ (.slice hA' hs'.length hc')) g vN hA' hc' nd hs' lg ∧ Mv (gOwn g vN hA nd) (gOwn g vN hA' nd) w (w'.setCell ⟨g, 1, none⟩ (.slice hA' hs'.length hc')) := by
  have no : ∀ {k : Nat} {cs : Array Value} {ty : TypeId}, Blk w k cs ty → ty ≠ 3 → blkOf hA ≠ some k := by
    intro k cs ty hk n1 e
    rcases h.hrow.lies with ⟨rfl, _⟩ | ⟨g', off, cs', rfl, hb', _⟩
    · cases e
    · cases e
      exact Blk.ne_ hk hb' n1 rfl
  have kb := h.blk.frm gr.frm (no h.blk (by decide))
  have fs : Frm (fun k => k = g) w' (w'.setCell ⟨g, 1, none⟩ (.slice hA' hs'.length hc')) := Frm.setCell (S := fun k => k = g) (Frm.refl _ _) (p := ⟨g, 1, none⟩) (fun _ => rfl) _
  have gq : ∀ k, blkOf hA' = some k → k ≠ g := by
    rintro k e rfl
    rcases q.lies with ⟨rfl, _⟩ | ⟨g', off, cs', rfl, hb', _⟩
    · cases e
    · cases e
      exact Blk.ne_ kb hb' (by decide) rfl
  obtain ⟨nb, nc, cur, en, hnb, _⟩ := h.row
  have nr : w'.ownsRow 0 120 2 vN (nd.length + 1) (ndV nd) := ownsRow_frm h.nrow gr.frm (by
    intro j e; rw [en] at e; cases e; exact no hnb (by decide))
  have hap' : ∀ x ∈ nd, blkOf hA' ≠ some x.pb := by
    intro x hx e
    rcases gr.at_ _ e with e1 | e1
    · exact h.hap x hx e1
    · have := (h.ptr x hx).lt; omega
  refine ⟨{ blk := kb.set_ 1 _, hrow := q.frm fs gq, nrow := ownsRow_frm nr fs ?_, ptr := ?_, sca := ?_, hap := hap', nap := h.nap, hin := hin, pin := h.pin, few := h.few, hfew := hf, lg0 := h.lg0, lg1 := h.lg1, size := h.size }, ?_, ?_⟩
  · intro j e; rw [en] at e; cases e
    exact fun e => Blk.ne_ (hnb.frm gr.frm (no hnb (by decide))) kb (by decide) e
  · intro x hx
    have k1 := (h.ptr x hx).frm gr.frm (h.hap x hx)
    exact k1.frm fs fun e => Blk.ne_ k1 kb (by decide) e
  · intro x hx
    have k1 := (h.sca x hx).frm gr.frm (no (h.sca x hx) (by decide))
    exact k1.frm fs fun e => Blk.ne_ k1 kb (by decide) e
  · refine Frm.setCell (p := ⟨g, 1, none⟩) (gr.frm.mono fun i _ e => .inr (.inr (.inl e))) (fun _ => .inl rfl) _
  · rintro k (rfl | e | e | e)
    · exact .inl (.inl rfl)
    · exact .inl (.inr (.inl e))
    · rcases gr.at_ k e with e | e
      · exact .inl (.inr (.inr (.inl e)))
      · exact .inr e
    · exact .inl (.inr (.inr (.inr e)))

theorem IsG.four {w : World} {g : Nat} {vN : Value} {hA : Option Addr} {hc : Nat} {nd : List Nd} {hs : List Int} {lg : Int} (h : IsG w g vN hA hc nd hs lg) :
    w.cell? ⟨g, 0, none⟩ = some vN ∧ w.cell? ⟨g, 1, none⟩ = some (.slice hA hs.length hc) ∧ w.cell? ⟨g, 2, none⟩ = some (.int .i64 lg) ∧ ∀ i, w.frozen? ⟨g, i, none⟩ = false := ⟨h.blk.cell 0, h.blk.cell 1, h.blk.cell 2, h.blk.frozen⟩

/-- Where New stands behind i handles. -/
def NewR (w : World) (g : Nat) (L : Int) (i : Nat) (w' : World) : Prop := ∃ nb hA hc, IsG w' g (.slice (some ⟨nb, 0, none⟩) 1 1) hA hc [] (List.replicate i 0) L ∧ (∀ k, gOwn g (.slice (some ⟨nb, 0, none⟩) 1 1) hA [] k → w.heap.size ≤ k) ∧ Below w.heap.size w w'

theorem newR_start (w : World) (L : Int) (h0 : 0 ≤ L) (h1 : L ≤ 64) (w' : World) (g : Nat)
    (hb : Blk w' g #[.slice (some ⟨w.heap.size, 0, none⟩) 1 1, .slice none 0 0, .int .i64 L] 117) (hn : Blk w' w.heap.size #[.slice none 0 0, .slice none 0 0] 120) (gw : w.heap.size ≤ g) (bel : Below w.heap.size w w') : NewR w g L 0 w' := by
  refine ⟨w.heap.size, none, 0, ⟨hb, Qu.nil _, ⟨rfl, .inr ⟨w.heap.size, 1, _, rfl, Nat.zero_le _, hn, Nat.le_refl _, by decide, rfl, rfl⟩⟩, by simp, by simp, by simp, .nil, by simp, by simp, by simp, by simp, h0, h1, by simp⟩, ?_, bel⟩
  rintro k (rfl | e | e | ⟨x, hx, _⟩)
  · exact gw
  · cases e; exact Nat.le_refl _
  · cases e
  · cases hx

theorem newR_first (w : World) (L : Int) (h0 : 0 ≤ L) (h1 : L ≤ 64) :
    NewR w (w.heap.size + 1) L 0 ((w.alloc (.cells #[.slice none 0 0, .slice none 0 0] 120)).alloc (.cells #[.slice (some ⟨w.heap.size, 0, none⟩) 1 1, .slice none 0 0, .int .i64 L] 117)) := by
  have b1 := Blk.new (w.alloc (.cells #[.slice none 0 0, .slice none 0 0] 120)) #[.slice (some ⟨w.heap.size, 0, none⟩) 1 1, .slice none 0 0, .int .i64 L] 117
  rw [show (w.alloc (.cells #[.slice none 0 0, .slice none 0 0] 120)).heap.size = w.heap.size + 1 by simp] at b1
  exact newR_start w L h0 h1 _ _ b1 ((Blk.new w _ _).alloc _) (by omega) (((Below.refl _ _).alloc (Nat.le_refl _) _).alloc (by simp) _)

/-- One more handle. -/
theorem NewR.more {w w1 w2 : World} {g : Nat} {L : Int} {i hc hc' nb : Nat} {hA hA' : Option Addr} (h : IsG w1 g (.slice (some ⟨nb, 0, none⟩) 1 1) hA hc [] (List.replicate i 0) L) (low : ∀ k, gOwn g (.slice (some ⟨nb, 0, none⟩) 1 1) hA [] k → w.heap.size ≤ k)
    (bel : Below w.heap.size w w1) (gr : Grw hA hA' w1 w2) (q : Qu w2 hA' (i + 1) hc' (List.replicate i 0 ++ [0])) (hi : i < 64) : NewR w g L (i + 1) (w2.setCell ⟨g, 1, none⟩ (.slice hA' (i + 1) hc')) := by
  rw [rep_snoc] at q
  have hl : (List.replicate (i + 1) (0 : Int)).length = i + 1 := List.length_replicate
  have q' : Qu w2 hA' (List.replicate (i + 1) (0 : Int)).length hc' (List.replicate (i + 1) 0) := by rw [hl]; exact q
  obtain ⟨h1, mv⟩ := h.setHs gr q' (fun x hx => by rw [List.eq_of_mem_replicate hx]; simp) (by rw [hl]; omega)
  rw [hl] at h1 mv
  refine ⟨nb, hA', hc', h1, fun k hk => ?_, Below.frm bel mv.frm bel.size fun k hk e => ?_⟩
  · rcases mv.at_ k hk with e | e
    · exact low k e
    · exact Nat.le_trans bel.size e
  · have := low k e; omega

set_option maxHeartbeats 4000000 in
theorem rgNew_any (hn l : Int) (w : World) :
    Calls Tryz.prog 25 #[.int .i64 hn, .int .i64 l] w fun e w' => ∃ g, e = .returned (.pointer (some ⟨g, 0, none⟩)) ∧ ∃ S, Rg w' g S (Gr.new hn l) ∧ Below w.heap.size w w' ∧ ∀ k, S k → w.heap.size ≤ k := by
  have hmk := run_make_node
  obtain ⟨n, hnn⟩ : ∃ n, nhI hn = n := ⟨_, rfl⟩
  have n1 : (n : Int) = min (max hn 0) 64 := by rw [← hnn]; unfold nhI; omega
  obtain ⟨L, hL⟩ : ∃ L, cutI l 0 64 = L := ⟨_, rfl⟩
  have L0 : 0 ≤ L := by rw [← hL]; exact (cutI_in (by decide)).1
  have L1 : L ≤ 64 := by rw [← hL]; exact (cutI_in (by decide)).2
  have eG : Gr.new hn l = ⟨[], List.replicate n 0, L⟩ := by unfold Gr.new; rw [hnn, hL]
  rw [eG]
  have HZ := Lib.hid (newR_first w L L0 L1)
  have hN := Lib.hid n1
  clear hnn eG n1
  have hs : (l < 0 ∧ L = 0) ∨ (64 < l ∧ L = 64) ∨ (0 ≤ l ∧ l ≤ 64 ∧ L = l) := by
    rw [← hL]; unfold cutI
    by_cases h0 : l < 0
    · exact .inl ⟨h0, if_pos h0⟩
    · by_cases h1 : 64 < l
      · exact .inr (.inl ⟨h1, by rw [if_neg h0, if_pos h1]⟩)
      · exact .inr (.inr ⟨by omega, by omega, by rw [if_neg h0, if_neg h1]⟩)
  clear hL
  rcases hs with ⟨h0, rfl⟩ | ⟨h0, rfl⟩ | ⟨h0, h1, rfl⟩
  all_goals
    go_enter Tryz.func25, Tryz.ntmps25
    go_wp2_with fail
    clear hmk
    go_loopw [6] (fun s wr => ∃ i : Nat, i ≤ n ∧ s = .int .i64 i ∧ Hid (NewR w (w.heap.size + 1) _ i wr)) (fun s _ => n - (intOf s).toNat)
    case atStart => exact ⟨0, Nat.zero_le _, rfl, HZ⟩
    case round =>
      clear HZ
      obtain ⟨i, hi, rfl, HR⟩ := hrel
      generalize w.heap.size + 1 = g at *
      by_cases hlt : i < n
      · have i1 : (i : Int) < hn := by have := hN.out; omega
        have i2 : (i : Int) < 64 := by have := hN.out; omega
        obtain ⟨nb, hA, hc, hg, low, bel⟩ := HR.out
        obtain ⟨c0, c1, c2, cf⟩ := hg.four
        rw [List.length_replicate] at c1
        have hl := hg.blk.lt
        have al : Below wr.heap.size wr (wr.alloc (.cells #[.int .i64 0] 3)) := (Below.refl _ _).alloc (Nat.le_refl _) _
        have H2 := Lib.hid (And.intro (hg.keep al) (And.intro low (below_trans bel al)))
        have Q2 := Lib.hid (show Qu (wr.alloc (.cells #[.int .i64 0] 3)) hA i hc (List.replicate i 0) from by have := (hg.keep al).hrow; rwa [List.length_replicate] at this)
        have E2 := Lib.hid (show (wr.alloc (.cells #[.int .i64 0] 3)).cell? ⟨wr.heap.size, 0, none⟩ = some (.int .i64 0) from (Blk.new wr #[.int .i64 0] 3).cell 0)
        clear hg low bel c0 c2 al HR
        go_wp2_with (first
          | (at_builtin; (refine wpList_append_qu _ rfl _ _ rfl Q2.out (by omega) 0 ⟨wr.heap.size, 0, none⟩ 1 rfl rfl E2.out ?_))
          | fail)
        intro A' c' w2 q gr
        have kb := H2.out.1.blk.frm gr.frm (fun e => by
          rcases H2.out.1.hrow.lies with ⟨rfl, _⟩ | ⟨g', off, cs', rfl, hb', _⟩
          · cases e
          · cases e
            exact Blk.ne_ H2.out.1.blk hb' (by decide) rfl)
        have cf2 : w2.frozen? ⟨g, 1, none⟩ = false := kb.frozen 1
        have ex2 : w2.cell? ⟨g, 1, none⟩ = some (.slice hA (List.replicate i (0 : Int)).length hc) := kb.cell 1
        have HN := Lib.hid (NewR.more H2.out.1 H2.out.2.1 H2.out.2.2 gr q (by omega))
        clear kb q gr H2 Q2 E2 c1 cf
        go_wp2
        go_roundw
        case rel => exact ⟨i + 1, by omega, by go_num, HN⟩
        case measure => simp [intOf]; omega
      · obtain rfl : n = i := by omega
        have HE := Lib.hid (show ∃ S, Rg wr g S ⟨[], List.replicate n 0, _⟩ ∧ Below w.heap.size w wr ∧ ∀ k, S k → w.heap.size ≤ k from by
          obtain ⟨nb, hA, hc, hg, low, bel⟩ := HR.out
          exact ⟨_, ⟨_, _, _, [], hg, rfl, rfl⟩, bel, low⟩)
        have hs : ¬ ((n : Int) < hn ∧ (n : Int) < 64) := by have := hN.out; omega
        clear HR
        by_cases i1 : (n : Int) < hn
        · have i2 : ¬ (n : Int) < 64 := fun e => hs ⟨i1, e⟩
          go_wp2
          go_ret
          exact ⟨_, rfl, HE.out⟩
        · go_wp2
          go_ret
          exact ⟨_, rfl, HE.out⟩
end Go.Proofs.YthmhehehomieiaaGreat

/- The document's graph: how it turns in memory where a handle, a reference or a scalar is set, or a node is added. -/
namespace Go.Proofs.YthmhehehomieiaaGreat
open Go.RowKit

section
variable {w : World} {g : Nat} {vN : Value} {hA : Option Addr} {hc : Nat} {nd : List Nd} {hs : List Int} {lg : Int}

theorem IsG.hNe (h : IsG w g vN hA hc nd hs lg) {k : Nat} {cs : Array Value} {ty : TypeId} (hk : Blk w k cs ty) (n1 : ty ≠ 3) : blkOf hA ≠ some k := by
  intro e
  rcases h.hrow.lies with ⟨rfl, _⟩ | ⟨g', off, cs', rfl, hb', _⟩
  · cases e
  · cases e
    exact Blk.ne_ hk hb' n1 rfl

/-- A handle holds something else. -/
theorem IsG.hold {q off : Nat} (h : IsG w g vN (some ⟨q, off, none⟩) hc nd hs lg) (i : Nat) (x : Int) (x0 : 0 ≤ x) (x1 : x ≤ nd.length) :
    IsG (w.setCell ⟨q, off + i, none⟩ (.int .i64 x)) g vN (some ⟨q, off, none⟩) hc nd (hs.set i x) lg ∧ Mv (gOwn g vN (some ⟨q, off, none⟩) nd) (gOwn g vN (some ⟨q, off, none⟩) nd) w (w.setCell ⟨q, off + i, none⟩ (.int .i64 x)) := by
  have fs : Frm (fun k => k = q) w (w.setCell ⟨q, off + i, none⟩ (.int .i64 x)) := Frm.setCell (S := fun k => k = q) (Frm.refl _ _) (p := ⟨q, off + i, none⟩) (fun _ => rfl) _
  have hl : (hs.set i x).length = hs.length := List.length_set
  obtain ⟨nb, nc, cur, en, hnb, _⟩ := h.row
  refine ⟨{ h with blk := ?_, hrow := ?_, nrow := ownsRow_frm h.nrow fs ?_, ptr := ?_, sca := ?_, hin := ?_, hfew := by rw [hl]; exact h.hfew }, fs.mono fun k _ e => .inr (.inr (.inl (by rw [e]; rfl))), fun k e => .inl e⟩
  · rw [hl]; exact h.blk.frm fs fun e => h.hNe h.blk (by decide) (by rw [e]; rfl)
  · rw [hl]; exact h.hrow.put i x
  · intro j e; rw [en] at e; cases e
    intro (e : nb = q)
    exact h.hNe hnb (by decide) (by rw [e]; rfl)
  · exact fun y hy => (h.ptr y hy).frm fs fun e => h.hap y hy (by rw [e]; rfl)
  · exact fun y hy => (h.sca y hy).frm fs fun e => h.hNe (h.sca y hy) (by decide) (by rw [e]; rfl)
  · intro y hy
    rcases List.mem_or_eq_of_mem_set hy with hy | rfl
    · exact h.hin y hy
    · exact ⟨x0, x1⟩

theorem nd_set {nd : List Nd} {i : Nat} {x y : Nd} (_ : nd[i]? = some x) (P : Nd → Prop) (hp : ∀ z ∈ nd, P z) (hy : P y) : ∀ z ∈ nd.set i y, P z := by
  intro z hz
  rcases List.mem_or_eq_of_mem_set hz with hz | rfl
  · exact hp z hz
  · exact hy

theorem pair_set {nd : List Nd} {i : Nat} {x y : Nd} (h : nd[i]? = some x) (e1 : y.pb = x.pb) (e2 : y.sb = x.sb) (hp : nd.Pairwise fun x y => x.pb ≠ y.pb ∧ x.sb ≠ y.sb) : (nd.set i y).Pairwise fun x y => x.pb ≠ y.pb ∧ x.sb ≠ y.sb := by
  rw [List.pairwise_iff_getElem] at hp ⊢
  intro a b ha hb hab
  rw [List.length_set] at ha hb
  obtain ⟨_, hi⟩ := List.getElem?_eq_some_iff.1 h
  have := hp a b ha hb hab
  rw [List.getElem_set, List.getElem_set]
  by_cases h1 : i = a
  · subst h1
    rw [if_pos rfl, if_neg (by omega), e1, e2, ← hi]; exact this
  · by_cases h2 : i = b
    · subst h2
      rw [if_neg h1, if_pos rfl, e1, e2, ← hi]; exact this
    · rw [if_neg h1, if_neg h2]; exact this

theorem other_blk {i : Nat} {x : Nd} (hx : nd[i]? = some x) (hp : nd.Pairwise fun x y => x.pb ≠ y.pb ∧ x.sb ≠ y.sb) {j : Nat} {z : Nd} (hz : nd[j]? = some z) (hj : i ≠ j) : z.pb ≠ x.pb ∧ z.sb ≠ x.sb := by
  rw [List.pairwise_iff_getElem] at hp
  obtain ⟨hi, rfl⟩ := List.getElem?_eq_some_iff.1 hx
  obtain ⟨hj', rfl⟩ := List.getElem?_eq_some_iff.1 hz
  rcases Nat.lt_or_gt_of_ne hj with hlt | hlt
  · have := hp i j hi hj' hlt; exact ⟨fun e => this.1 e.symm, fun e => this.2 e.symm⟩
  · exact hp j i hj' hi hlt

theorem gOwn_set {i : Nat} {x y : Nd} (hx : nd[i]? = some x) (e1 : y.pb = x.pb) (e2 : y.sb = x.sb) {k : Nat} : gOwn g vN hA (nd.set i y) k → gOwn g vN hA nd k := by
  rintro (e | e | e | ⟨z, hz, e⟩)
  · exact .inl e
  · exact .inr (.inl e)
  · exact .inr (.inr (.inl e))
  · rcases List.mem_or_eq_of_mem_set hz with hz | rfl
    · exact .inr (.inr (.inr ⟨z, hz, e⟩))
    · exact .inr (.inr (.inr ⟨x, List.mem_of_getElem? hx, by rw [← e1, ← e2]; exact e⟩))

theorem ints_set (ys : List Int) (k : Nat) (v : Int) : (ints ys).toArray.setIfInBounds k (.int .i64 v) = (ints (ys.set k v)).toArray := by apply Array.ext'; simp [ints]
theorem wordsU_set (ys : List Int) (k : Nat) (v : Int) : (wordsU ys).toArray.setIfInBounds k (.int .u64 v) = (wordsU (ys.set k v)).toArray := by apply Array.ext'; simp [wordsU]

/-- A node refers to something else. -/
theorem IsG.refer {i : Nat} {x : Nd} (h : IsG w g vN hA hc nd hs lg) (hx : nd[i]? = some x) (k : Nat) (v : Int) (v0 : 0 ≤ v) (v1 : v ≤ nd.length) :
    IsG (w.setCell ⟨x.pb, k, none⟩ (.int .i64 v)) g vN hA hc (nd.set i ⟨x.ps.set k v, x.ss, x.pb, x.sb⟩) hs lg ∧ Mv (gOwn g vN hA nd) (gOwn g vN hA (nd.set i ⟨x.ps.set k v, x.ss, x.pb, x.sb⟩)) w (w.setCell ⟨x.pb, k, none⟩ (.int .i64 v)) := by
  have fs : Frm (fun j => j = x.pb) w (w.setCell ⟨x.pb, k, none⟩ (.int .i64 v)) := Frm.setCell (S := fun j => j = x.pb) (Frm.refl _ _) (p := ⟨x.pb, k, none⟩) (fun _ => rfl) _
  have hm := List.mem_of_getElem? hx
  obtain ⟨nb, nc, cur, en, hnb, _⟩ := h.row
  have bx := h.ptr x hm
  have hl : (nd.set i ⟨x.ps.set k v, x.ss, x.pb, x.sb⟩).length = nd.length := List.length_set
  refine ⟨{ blk := h.blk.frm fs (fun e => Blk.ne_ h.blk bx (by decide) e), hrow := h.hrow.frm fs (fun j hj e => h.hap x hm (by rw [hj, e])), nrow := ?_, ptr := ?_, sca := ?_, hap := nd_set hx _ h.hap (h.hap x hm), nap := (pair_set hx rfl rfl h.nap), hin := (by rw [hl]; exact h.hin), pin := ?_, few := (by rw [hl]; exact h.few), hfew := h.hfew, lg0 := h.lg0, lg1 := h.lg1, size := nd_set hx _ h.size (by rw [List.length_set]; exact h.size x hm) }, ?_, fun j e => .inl (gOwn_set (y := ⟨x.ps.set k v, x.ss, x.pb, x.sb⟩) hx rfl rfl e)⟩
  · rw [hl, ndV_set nd i x _ hx (by simp [Nd.vs])]
    refine ownsRow_frm h.nrow fs ?_
    intro j e; rw [en] at e; cases e
    exact fun e => Blk.ne_ hnb bx (by decide) e
  · intro z hz
    rw [List.mem_iff_getElem?] at hz
    obtain ⟨j, hj⟩ := hz
    by_cases e : i = j
    · subst e
      have hi := (List.getElem?_eq_some_iff.1 hx).1
      rw [List.getElem?_set_self hi] at hj
      cases hj
      have := bx.set_ k (.int .i64 v)
      rw [ints_set] at this
      exact this
    · rw [List.getElem?_set_ne e] at hj
      exact (h.ptr z (List.mem_of_getElem? hj)).frm fs (other_blk hx h.nap hj e).1
  · refine nd_set hx (fun z => Blk (w.setCell ⟨x.pb, k, none⟩ (.int .i64 v)) z.sb (wordsU z.ss).toArray 51) (fun z hz => (h.sca z hz).frm fs fun e => Blk.ne_ (h.sca z hz) bx (by decide) e) ((h.sca x hm).frm fs fun e => Blk.ne_ (h.sca x hm) bx (by decide) e)
  · rw [hl]
    refine nd_set hx (fun z => ∀ q ∈ z.ps, 0 ≤ q ∧ q ≤ nd.length) h.pin fun q hq => ?_
    rcases List.mem_or_eq_of_mem_set hq with hq | rfl
    · exact h.pin x hm q hq
    · exact ⟨v0, v1⟩
  · exact fs.mono fun j _ e => .inr (.inr (.inr ⟨x, hm, .inl e⟩))

/-- A node has another scalar. -/
theorem IsG.write {i : Nat} {x : Nd} (h : IsG w g vN hA hc nd hs lg) (hx : nd[i]? = some x) (k : Nat) (v : Int) :
    IsG (w.setCell ⟨x.sb, k, none⟩ (.int .u64 v)) g vN hA hc (nd.set i ⟨x.ps, x.ss.set k v, x.pb, x.sb⟩) hs lg ∧ Mv (gOwn g vN hA nd) (gOwn g vN hA (nd.set i ⟨x.ps, x.ss.set k v, x.pb, x.sb⟩)) w (w.setCell ⟨x.sb, k, none⟩ (.int .u64 v)) := by
  have fs : Frm (fun j => j = x.sb) w (w.setCell ⟨x.sb, k, none⟩ (.int .u64 v)) := Frm.setCell (S := fun j => j = x.sb) (Frm.refl _ _) (p := ⟨x.sb, k, none⟩) (fun _ => rfl) _
  have hm := List.mem_of_getElem? hx
  obtain ⟨nb, nc, cur, en, hnb, _⟩ := h.row
  have bx := h.sca x hm
  have hl : (nd.set i ⟨x.ps, x.ss.set k v, x.pb, x.sb⟩).length = nd.length := List.length_set
  refine ⟨{ blk := h.blk.frm fs (fun e => Blk.ne_ h.blk bx (by decide) e), hrow := h.hrow.frm fs (fun j hj e => h.hNe bx (by decide) (by rw [hj, e])), nrow := ?_, ptr := ?_, sca := ?_, hap := nd_set hx _ h.hap (h.hap x hm), nap := (pair_set hx rfl rfl h.nap), hin := (by rw [hl]; exact h.hin), pin := ?_, few := (by rw [hl]; exact h.few), hfew := h.hfew, lg0 := h.lg0, lg1 := h.lg1, size := nd_set hx _ h.size (by rw [List.length_set]; exact h.size x hm) }, ?_, fun j e => .inl (gOwn_set (y := ⟨x.ps, x.ss.set k v, x.pb, x.sb⟩) hx rfl rfl e)⟩
  · rw [hl, ndV_set nd i x _ hx (by simp [Nd.vs])]
    refine ownsRow_frm h.nrow fs ?_
    intro j e; rw [en] at e; cases e
    exact fun e => Blk.ne_ hnb bx (by decide) e
  · refine nd_set hx (fun z => Blk (w.setCell ⟨x.sb, k, none⟩ (.int .u64 v)) z.pb (ints z.ps).toArray 3) (fun z hz => (h.ptr z hz).frm fs fun e => Blk.ne_ (h.ptr z hz) bx (by decide) e) ((h.ptr x hm).frm fs fun e => Blk.ne_ (h.ptr x hm) bx (by decide) e)
  · intro z hz
    rw [List.mem_iff_getElem?] at hz
    obtain ⟨j, hj⟩ := hz
    by_cases e : i = j
    · subst e
      have hi := (List.getElem?_eq_some_iff.1 hx).1
      rw [List.getElem?_set_self hi] at hj
      cases hj
      have := bx.set_ k (.int .u64 v)
      rw [wordsU_set] at this
      exact this
    · rw [List.getElem?_set_ne e] at hj
      exact (h.sca z (List.mem_of_getElem? hj)).frm fs (other_blk hx h.nap hj e).2
  · rw [hl]
    exact nd_set hx (fun z => ∀ q ∈ z.ps, 0 ≤ q ∧ q ≤ nd.length) h.pin (h.pin x hm)
  · exact fs.mono fun j _ e => .inr (.inr (.inr ⟨x, hm, .inr e⟩))
end

section
variable {w : World} {g : Nat} {S : Nat → Prop} {G : Gr}
/-- A node that there is. -/
theorem node_at {nd : List Nd} (e : G.ns = nd.map Nd.two) {x : Int} (x0 : 0 < x) (x1 : x ≤ nd.length) : ∃ (i : Nat) (y : Nd), x = ((i + 1 : Nat) : Int) ∧ nd[i]? = some y ∧ G.node x = (y.ps, y.ss) ∧ x.toNat - 1 = i := by
  obtain ⟨i, rfl⟩ : ∃ i : Nat, x = ((i + 1 : Nat) : Int) := ⟨x.toNat - 1, by omega⟩
  have hi : i < nd.length := by omega
  refine ⟨i, _, rfl, List.getElem?_eq_getElem hi, ?_, by omega⟩
  unfold Gr.node
  rw [e, Int.toNat_natCast, Nat.add_sub_cancel, List.getD_eq_getElem?_getD, List.getElem?_map, List.getElem?_eq_getElem hi]
  rfl
end
end Go.Proofs.YthmhehehomieiaaGreat

/- Contracts of the document's graph: entries that change something, but making. -/
namespace Go.Proofs.YthmhehehomieiaaGreat
open Go.RowKit

abbrev sgV (k a b c v : Int) : Value := .agg #[.int .i64 k, .int .i64 a, .int .i64 b, .int .i64 c, .int .u64 v]
abbrev stB (k a b c v : Int) : Obj := .cells #[.int .i64 k, .int .i64 a, .int .i64 b, .int .i64 c, .int .u64 v] 53

/-- An error, and what it comes to. -/
def ChR (w : World) (g : Nat) (S : Nat → Prop) (G : Gr) (k a b c v : Int) (e : Ending) (w' : World) : Prop :=
  e = .returned (.int .i64 (G.change k a b c v).1) ∧ ∃ S', Rg w' g S' (G.change k a b c v).2 ∧ Mv S S' w w'

theorem chR_err {w w' : World} {g : Nat} {S : Nat → Prop} {G : Gr} {k a b c v x : Int} (h : Rg w g S G) (f : Below w.heap.size w w') (e : G.change k a b c v = (x, G)) : ChR w g S G k a b c v (.returned (.int .i64 x)) w' := by
  unfold ChR
  rw [e]
  exact ⟨rfl, S, h.keep f, Mv.of_below f⟩

section
variable (w : World) (g : Nat) (S : Nat → Prop) (G : Gr) (a b c v : Int)

set_option maxRecDepth 100000 in
set_option maxHeartbeats 4000000 in
theorem rgClear (r : Rg w g S G) : Calls Tryz.prog 71 #[.pointer (some ⟨g, 0, none⟩), sgV 6 a b c v] w fun e w' => ChR w g S G 6 a b c v e w' := by
  have al : Below w.heap.size w (w.alloc (stB 6 a b c v)) := (Below.refl _ _).alloc (Nat.le_refl _) _
  have HH := Lib.hid (rgHas_any _ g S G a (r.keep al))
  cases hb : G.has a
  · rw [hb] at HH
    have HE := Lib.hid (chR_err (k := 6) (a := a) (b := b) (c := c) (v := v) (x := 3) r al (by simp [Gr.change, hb]))
    clear r hb al
    go_enter Tryz.func71, Tryz.ntmps71
    go_wp2_with fail
    refine HH.out.mono ?_
    rintro e w1 ⟨rfl, rfl⟩
    go_wp2
    go_ret
    exact HE.out
  · obtain ⟨i, x, rfl, hl, hx, hv, x0, x1⟩ := r.at_ hb
    rw [hb] at HH
    have ec : G.change 6 i b c v = (0, G.hold i 0) := by simp [Gr.change, hb]
    obtain ⟨vN, hA, hc, nd, hi, eN, rfl⟩ := r
    have hk := hi.keep al
    obtain ⟨q, off, rfl, _, hcx, hfz⟩ := hk.hrow.at_ (by omega)
    have cx := hcx i x hx
    have kb := Blk.new w #[.int .i64 6, .int .i64 i, .int .i64 b, .int .i64 c, .int .u64 v] 53
    have hf := hi.hfew
    obtain ⟨c0, c1, c2, cf⟩ := hk.four
    have HE := Lib.hid (fun (w' : World) (f : Below (w.alloc (stB 6 i b c v)).heap.size (w.alloc (stB 6 i b c v)) w') => (show ChR w g (gOwn g vN (some ⟨q, off, none⟩) nd) G 6 i b c v (.returned (.int .i64 0)) (w'.setCell ⟨q, off + i, none⟩ (.int .i64 0)) from by
      obtain ⟨h1, mv⟩ := (hk.keep f).hold i 0 (by decide) (by omega)
      unfold ChR
      rw [ec]
      exact ⟨rfl, _, ⟨vN, _, hc, nd, by unfold Gr.hold; rw [Int.toNat_natCast]; exact h1, eN, rfl⟩, Mv.pre (below_trans al f) mv⟩))
    have s1 := kb.cell 1
    have sf := kb.frozen
    clear hi hcx hv hx hb ec kb al x0 x1 eN c0 c2
    generalize G.hs.length = n at c1 hl hf
    go_enter Tryz.func71, Tryz.ntmps71
    go_wp2_with fail
    refine HH.out.mono ?_
    rintro e w1 ⟨rfl, rfl⟩
    generalize hW : w.alloc (stB 6 i b c v) = W at *
    go_wp2_with fail
    go_region
    go_wp2
    go_ret
    exact HE.out _ (below_drew _)

set_option maxRecDepth 100000 in
set_option maxHeartbeats 4000000 in
theorem rgCopy (r : Rg w g S G) : Calls Tryz.prog 71 #[.pointer (some ⟨g, 0, none⟩), sgV 7 a b c v] w fun e w' => ChR w g S G 7 a b c v e w' := by
  have al : Below w.heap.size w (w.alloc (stB 7 a b c v)) := (Below.refl _ _).alloc (Nat.le_refl _) _
  have HH := Lib.hid (rgHas_any _ g S G a (r.keep al))
  have HB := Lib.hid (rgHas_any _ g S G b (r.keep al))
  cases hb : G.has a
  · rw [hb] at HH
    have HE := Lib.hid (chR_err (k := 7) (a := a) (b := b) (c := c) (v := v) (x := 3) r al (by simp [Gr.change, hb]))
    clear r hb al HB
    go_enter Tryz.func71, Tryz.ntmps71
    go_wp2_with fail
    refine HH.out.mono ?_
    rintro e w1 ⟨rfl, rfl⟩
    go_wp2
    go_ret
    exact HE.out
  · rw [hb] at HH
    cases hd : G.has b
    · rw [hd] at HB
      have HE := Lib.hid (chR_err (k := 7) (a := a) (b := b) (c := c) (v := v) (x := 3) r al (by simp [Gr.change, hb, hd]))
      clear r hb hd al
      go_enter Tryz.func71, Tryz.ntmps71
      go_wp2_with fail
      refine HH.out.mono ?_
      rintro e w1 ⟨rfl, rfl⟩
      go_wp2_with fail
      refine HB.out.mono ?_
      rintro e w1 ⟨rfl, rfl⟩
      go_wp2
      go_ret
      exact HE.out
    · rw [hd] at HB
      obtain ⟨i, x, rfl, hl, hx, hv, x0, x1⟩ := r.at_ hb
      obtain ⟨j, y, rfl, jl, hy, yv, y0, y1⟩ := r.at_ hd
      have ec : G.change 7 i j c v = (0, G.hold i y) := by simp [Gr.change, hb, hd, yv]
      obtain ⟨vN, hA, hc, nd, hi, eN, rfl⟩ := r
      have hk := hi.keep al
      obtain ⟨q, off, rfl, _, hcx, hfz⟩ := hk.hrow.at_ (by omega)
      have cx := hcx i x hx
      have cy := hcx j y hy
      have kb := Blk.new w #[.int .i64 7, .int .i64 i, .int .i64 j, .int .i64 c, .int .u64 v] 53
      have hf := hi.hfew
      obtain ⟨c0, c1, c2, cf⟩ := hk.four
      have HE := Lib.hid (fun (w' : World) (f : Below (w.alloc (stB 7 i j c v)).heap.size (w.alloc (stB 7 i j c v)) w') => (show ChR w g (gOwn g vN (some ⟨q, off, none⟩) nd) G 7 i j c v (.returned (.int .i64 0)) (w'.setCell ⟨q, off + i, none⟩ (.int .i64 y)) from by
        obtain ⟨h1, mv⟩ := (hk.keep f).hold i y y0 (by rw [eN, List.length_map] at y1; exact y1)
        unfold ChR
        rw [ec]
        exact ⟨rfl, _, ⟨vN, _, hc, nd, by unfold Gr.hold; rw [Int.toNat_natCast]; exact h1, eN, rfl⟩, Mv.pre (below_trans al f) mv⟩))
      have s1 := kb.cell 1
      have s2 := kb.cell 2
      have sf := kb.frozen
      clear hi hcx hv yv hx hy hb hd ec kb al x0 x1 y0 y1 eN c0 c2
      generalize G.hs.length = n at c1 hl jl hf
      go_enter Tryz.func71, Tryz.ntmps71
      go_wp2_with fail
      refine HH.out.mono ?_
      rintro e w1 ⟨rfl, rfl⟩
      go_wp2_with fail
      refine HB.out.mono ?_
      rintro e w1 ⟨rfl, rfl⟩
      generalize hW : w.alloc (stB 7 i j c v) = W at *
      go_wp2_with fail
      go_region
      go_wp2
      go_ret
      exact HE.out _ (below_drew _)

end

/-- A step's box, a node's copy, and the graph beside them. -/
structure Gx (w V : World) (g : Nat) (vN : Value) (hA : Option Addr) (hc : Nat) (nd : List Nd) (hs : List Int) (lg : Int) (sb nb : Nat) (k a b c v : Int) (z : Nd) : Prop where
  isg : IsG V g vN hA hc nd hs lg
  bel : Below w.heap.size w V
  st : Blk V sb #[.int .i64 k, .int .i64 a, .int .i64 b, .int .i64 c, .int .u64 v] 53
  nb : Blk V nb #[.slice (some ⟨z.pb, 0, none⟩) z.ps.length z.ps.length, .slice (some ⟨z.sb, 0, none⟩) z.ss.length z.ss.length] 120

theorem gx_make {w : World} {g : Nat} {vN : Value} {hA : Option Addr} {hc : Nat} {nd : List Nd} {hs : List Int} {lg : Int} (h : IsG w g vN hA hc nd hs lg) (k a b c v : Int) (z : Nd) :
    Gx w ((w.alloc (stB k a b c v)).alloc (.cells #[.slice (some ⟨z.pb, 0, none⟩) z.ps.length z.ps.length, .slice (some ⟨z.sb, 0, none⟩) z.ss.length z.ss.length] 120)).drew g vN hA hc nd hs lg w.heap.size (w.alloc (stB k a b c v)).heap.size k a b c v z := by
  have b1 : Below w.heap.size w (w.alloc (stB k a b c v)) := (Below.refl _ _).alloc (Nat.le_refl _) _
  have b2 := (Below.refl (w.alloc (stB k a b c v)).heap.size (w.alloc (stB k a b c v))).alloc (Nat.le_refl _) (.cells #[.slice (some ⟨z.pb, 0, none⟩) z.ps.length z.ps.length, .slice (some ⟨z.sb, 0, none⟩) z.ss.length z.ss.length] 120)
  have b3 := below_trans (below_trans b1 b2) (below_drew _)
  exact ⟨h.keep b3, b3, ((Blk.new w _ _).keep b2).drew, (Blk.new _ _ _).drew⟩

/-- A handle that holds an object. -/
theorem wrong_zero {G : Gr} {b : Int} (hw : G.wrong b = 0) : G.has b = true ∧ G.held b ≠ 0 := by
  unfold Gr.wrong at hw
  split at hw
  · rename_i hh
    refine ⟨hh, fun e => ?_⟩
    rw [if_pos e] at hw
    cases hw
  · cases hw

theorem two_set {nd : List Nd} {ns : List (List Int × List Int)} (e : ns = nd.map Nd.two) (i : Nat) (y : Nd) : ns.set i (y.ps, y.ss) = (nd.set i y).map Nd.two := by
  rw [e, List.map_set]; rfl
end Go.Proofs.YthmhehehomieiaaGreat

/- An entry of a script, and a slice of them, as arguments. -/
namespace Go.Proofs.YthmhehehomieiaaGreat
open Go.RowKit Go.ChangeShapes Go.WideShapes Go.Deep

/-- A number of the kind int. -/
def InI (n : Int) : Prop := -9223372036854775808 ≤ n ∧ n ≤ 9223372036854775807

set_option maxRecDepth 100000 in
theorem open_step {H : Type} {enc : TypeId × Value → H} {w : World} {base : Nat} {spare : Nat → Bool} {held : Bool} {r : Reach} {b0 : Nat} {v : Value} {d : DataW H} {p : List MemPlace}
    (hv : Value.okWide Tryz.prog w r b0 53 v) (h : DataW.Trod enc Tryz.prog w base spare held 53 v d p) :
    ∃ k a b c x : Int, v = sgV k a b c x ∧ InI b ∧ InI c := by
  obtain ⟨l, rfl, hl, m, hf⟩ := open_cells Tryz.underlying53 (by kernel_rfl) (by kernel_rfl) hv h
  obtain ⟨c0, y0, e0, t0⟩ := hf 0 _ rfl
  obtain ⟨c1, y1, e1, t1⟩ := hf 1 _ rfl
  obtain ⟨c2, y2, e2, t2⟩ := hf 2 _ rfl
  obtain ⟨c3, y3, e3, t3⟩ := hf 3 _ rfl
  obtain ⟨c4, y4, e4, t4⟩ := hf 4 _ rfl
  obtain ⟨n0, h0, _, _⟩ := DataW.trod_int Tryz.underlying3 t0
  obtain ⟨n1, h1, _, _⟩ := DataW.trod_int Tryz.underlying3 t1
  obtain ⟨n2, h2, _, w2⟩ := DataW.trod_int Tryz.underlying3 t2
  obtain ⟨n3, h3, _, w3⟩ := DataW.trod_int Tryz.underlying3 t3
  obtain ⟨n4, h4, _, _⟩ := DataW.trod_int Tryz.underlying51 t4
  simp only [List.cons.injEq, and_true] at h0 h1 h2 h3 h4
  subst h0 h1 h2 h3 h4
  refine ⟨n0, n1, n2, n3, n4, ?_, bounds_int w2, bounds_int w3⟩
  have hl5 : l.length = 5 := hl
  match l, hl5 with
  | [a0, a1, a2, a3, a4], _ =>
    simp at e0 e1 e2 e3 e4
    subst e0 e1 e2 e3 e4
    rfl

/-- A slice of entries as it came in: nil let in. -/
def RdSt (w : World) (A : Option Addr) (n : Nat) : Prop :=
  ∀ i, i < n → ∃ ad k a b c x, A = some ad ∧ InI b ∧ InI c ∧ ∀ w', Below w.heap.size w w' →
    w'.cell? (ad.add (i * 5)) = some (.int .i64 k) ∧ w'.cell? ⟨(ad.add (i * 5)).block, (ad.add (i * 5)).off + 1, none⟩ = some (.int .i64 a) ∧ w'.cell? ⟨(ad.add (i * 5)).block, (ad.add (i * 5)).off + 2, none⟩ = some (.int .i64 b) ∧
    w'.cell? ⟨(ad.add (i * 5)).block, (ad.add (i * 5)).off + 3, none⟩ = some (.int .i64 c) ∧ w'.cell? ⟨(ad.add (i * 5)).block, (ad.add (i * 5)).off + 4, none⟩ = some (.int .u64 x)

set_option maxRecDepth 100000 in
theorem open_steps {H : Type} {enc : TypeId × Value → H} {w : World} {base : Nat} {spare : Nat → Bool} {held : Bool} {r : Reach} {b0 : Nat} {v : Value} {d : DataW H} {p : List MemPlace}
    (hv : Value.okWide Tryz.prog w r b0 47 v) (h : DataW.Trod enc Tryz.prog w base spare held 47 v d p) :
    ∃ A n c, v = .slice A n c ∧ n ≤ c ∧ c ≤ maxLen ∧ RdSt w A n := by
  obtain ⟨A, n, c, rfl, hn, hc, hi⟩ := open_structs Tryz.underlying47 Tryz.underlying53 (by kernel_rfl) (by kernel_rfl) hv h
  refine ⟨A, n, c, rfl, hn, hc, fun i hin => ?_⟩
  obtain ⟨a, m, rfl, hf⟩ := hi i hin
  obtain ⟨v0, y0, e0, t0⟩ := hf 0 _ rfl
  obtain ⟨v1, y1, e1, t1⟩ := hf 1 _ rfl
  obtain ⟨v2, y2, e2, t2⟩ := hf 2 _ rfl
  obtain ⟨v3, y3, e3, t3⟩ := hf 3 _ rfl
  obtain ⟨v4, y4, e4, t4⟩ := hf 4 _ rfl
  obtain ⟨n0, h0, _, _⟩ := DataW.trod_int Tryz.underlying3 t0
  obtain ⟨n1, h1, _, _⟩ := DataW.trod_int Tryz.underlying3 t1
  obtain ⟨n2, h2, _, w2⟩ := DataW.trod_int Tryz.underlying3 t2
  obtain ⟨n3, h3, _, w3⟩ := DataW.trod_int Tryz.underlying3 t3
  obtain ⟨n4, h4, _, _⟩ := DataW.trod_int Tryz.underlying51 t4
  simp only [List.cons.injEq, and_true] at h0 h1 h2 h3 h4
  subst h0 h1 h2 h3 h4
  have hlt : a.block < w.heap.size := by have := cell_lt e0; rwa [block_of_add] at this
  change w.cell? (a.add (i * 5 + 0)) = _ at e0
  change w.cell? (a.add (i * 5 + 1)) = _ at e1
  change w.cell? (a.add (i * 5 + 2)) = _ at e2
  change w.cell? (a.add (i * 5 + 3)) = _ at e3
  change w.cell? (a.add (i * 5 + 4)) = _ at e4
  rw [Nat.add_zero] at e0
  rw [add_more _ _ _ (by omega)] at e1 e2 e3 e4
  have eb : (a.add (i * 5)).block = a.block := block_of_add _ _
  exact ⟨a, n0, n1, n2, n3, n4, rfl, bounds_int w2, bounds_int w3, fun w' hb => ⟨(hb.cell (p := a.add (i * 5)) (by rw [eb]; exact hlt)).trans e0,
    (hb.cell (p := ⟨(a.add (i * 5)).block, (a.add (i * 5)).off + 1, none⟩) (by rw [eb]; exact hlt)).trans e1, (hb.cell (p := ⟨(a.add (i * 5)).block, (a.add (i * 5)).off + 2, none⟩) (by rw [eb]; exact hlt)).trans e2,
    (hb.cell (p := ⟨(a.add (i * 5)).block, (a.add (i * 5)).off + 3, none⟩) (by rw [eb]; exact hlt)).trans e3, (hb.cell (p := ⟨(a.add (i * 5)).block, (a.add (i * 5)).off + 4, none⟩) (by rw [eb]; exact hlt)).trans e4⟩⟩
end Go.Proofs.YthmhehehomieiaaGreat

/- A core made since some world, whatever stands in it, with the caller's blocks beside it; the statements' configurations. -/
namespace Go.Proofs.YthmhehehomieiaaGreat
open Go.RowKit

set_option maxHeartbeats 4000000 in
theorem config14_any (a b c d : Int) (ha : By a) (hb : By b) (hc : By c) (hd : By d) (w : World) :
    Calls Tryz.prog 45 #[.int .u8 a, .int .u8 b, .int .u8 c, .int .u8 d] w fun e w' => e = .returned (cfgOf a b c d).v ∧ Below w.heap.size w w' := by
  obtain ⟨a0, a1⟩ := ha
  obtain ⟨b0, b1⟩ := hb
  obtain ⟨c0, c1⟩ := hc
  obtain ⟨d0, d1⟩ := hd
  have hk := dvK_wrap c
  have hd := dvK_div c (16 + 16 * (a / 64)) (by omega) (by omega)
  have k0 : ¬ dvK c = 0 := by rcases dvK_in c with h | h | h <;> rw [h] <;> omega
  have hE : (cfgOf a b c d).cd = (16 + 16 * (a / 64)) / dvK c := rfl
  have HE := Lib.hid hE
  clear hE
  go_enter Tryz.func45, Tryz.ntmps45
  go_wp2
  exact bodyPost_ret (v := (cfgOf a b c d).v) (by simp [results, Tryz.results45, go_sem]; exact ⟨rfl, rfl, rfl, rfl, HE.out.symm, rfl, rfl, rfl, rfl, rfl, rfl, rfl, rfl⟩) rfl ⟨rfl, (Below.refl _ _).alloc (Nat.le_refl _) _⟩
/-- Block b is a core made since w0; no block of Z is its own; what there was is as it was. -/
structure Km (w0 w : World) (Z : Nat → Prop) (b : Nat) (s : Co) : Prop where
  is : ∃ S, Cr w b S s ∧ ∀ k, S k → w0.heap.size ≤ k ∧ ¬ Z k
  bel : Below w0.heap.size w0 w
  low : ∀ k, Z k → w0.heap.size ≤ k ∧ k < w.heap.size

section
variable {w0 w w' : World} {Z Z' : Nat → Prop} {b : Nat} {s s' : Co} {c : Cfg}

theorem Km.write {T : Nat → Prop} (h : Km w0 w Z b s) (f : Frm T w w') (hs : ∀ k, k < w.heap.size → T k → Z k) (hz : ∀ k, Z' k → Z k ∨ (w.heap.size ≤ k ∧ k < w'.heap.size)) : Km w0 w' Z' b s := by
  obtain ⟨S, hC, ho⟩ := h.is
  refine ⟨⟨S, hC.frm (T := fun k => T k ∧ k < w.heap.size) ⟨f.os, f.tape, f.output, f.size, fun k hk hn => f.block k hk fun e => hn ⟨e, hk⟩⟩ fun k hk ht => (ho k hk).2 (hs k ht.2 ht.1), fun k hk => ⟨(ho k hk).1, fun hz' => ?_⟩⟩, ?_, fun k hk => ?_⟩
  · rcases hz k hz' with e | e
    · exact (ho k hk).2 e
    · have := hC.lt hk; omega
  · refine Below.frm (S := fun k => T k ∧ k < w.heap.size) h.bel ⟨f.os, f.tape, f.output, f.size, fun k hk hn => f.block k hk fun e => hn ⟨e, hk⟩⟩ h.bel.size fun k hk ht => ?_
    have := (h.low k (hs k ht.2 ht.1)).1
    omega
  · rcases hz k hk with e | e
    · exact ⟨(h.low k e).1, Nat.lt_of_lt_of_le (h.low k e).2 f.size⟩
    · exact ⟨Nat.le_trans h.bel.size e.1, e.2⟩
theorem Km.grow (h : Km w0 w Z b s) (f : Below w.heap.size w w') (hz : ∀ k, Z' k → Z k ∨ (w.heap.size ≤ k ∧ k < w'.heap.size)) : Km w0 w' Z' b s :=
  h.write (T := fun _ => False) (Frm.of_below f) (fun _ _ e => e.elim) hz
theorem Km.keep (h : Km w0 w Z b s) (f : Below w.heap.size w w') : Km w0 w' Z b s := h.grow f fun _ => .inl

theorem Km.step {S : Nat → Prop} (h : Km w0 w Z b s) (ho : ∀ k, S k → w0.heap.size ≤ k ∧ ¬ Z k) (r : CoR w b S s' w') : Km w0 w' Z b s' ∧ Kp Z w w' := by
  obtain ⟨S', hC, m⟩ := r
  refine ⟨⟨⟨S', hC, fun k hk => ?_⟩, Below.frm h.bel m.frm h.bel.size fun k hk e => ?_, fun k hk => ⟨(h.low k hk).1, Nat.lt_of_lt_of_le (h.low k hk).2 m.frm.size⟩⟩, m.frm.mono fun k _ hk hz => (ho k hk).2 hz⟩
  · rcases m.at_ k hk with e | e
    · exact ho k e
    · exact ⟨Nat.le_trans h.bel.size e, fun hz => by have := (h.low k hz).2; omega⟩
  · have := (ho k e).1; omega

/-- A call that leaves the core as it is. -/
theorem Km.look {P : Program} {fn : FuncId} {args : Array Value} {R : Ending → Prop} (h : Km w0 w Z b s) (c : ∀ S, Cr w b S s → Calls P fn args w fun e w' => R e ∧ CoR w b S s w') :
    Calls P fn args w fun e w' => R e ∧ Km w0 w' Z b s ∧ Kp Z w w' := by
  obtain ⟨S, hC, ho⟩ := h.is
  exact (c S hC).mono fun e w' ⟨r, k⟩ => ⟨r, (h.step ho k).1, (h.step ho k).2⟩
theorem Km.cr (h : Km w0 w Z b s) : ∃ S, Cr w b S s := let ⟨S, c, _⟩ := h.is; ⟨S, c⟩

theorem km_new (hm : c.May) (bel : Below w0.heap.size w0 w) (low : ∀ k, Z k → w0.heap.size ≤ k ∧ k < w.heap.size) :
    Calls Tryz.prog 19 #[c.v] w fun e w' => ∃ b pt, e = .returned (.tuple #[ptr b, .int .i64 0]) ∧ Km w0 w' Z b (Co.fresh c pt) ∧ Kp Z w w' :=
  (coNew_yes c w hm).mono fun _ _ ⟨b, S, pt, he, hC, hb, ho⟩ => ⟨b, pt, he, ⟨⟨S, hC, fun k hk => ⟨Nat.le_trans bel.size (ho k hk), fun hz => by have := (low k hz).2; have := ho k hk; omega⟩⟩, below_trans bel hb, fun k hk => ⟨(low k hk).1, Nat.lt_of_lt_of_le (low k hk).2 hb.size⟩⟩, Kp.of_below hb⟩
end

namespace Gc
section
variable {w0 w w' : World} {Z Z' : Nat → Prop} {b : Nat} {s s' : Co} {A B : Hp}

theorem km_step (h : Km w0 w Z b s) (c : Cyc s A) :
    Calls Tryz.prog 50 #[ptr b] w fun e w' => ∃ s' B n y, e = .returned (.tuple #[.int .i64 n, .bool y]) ∧ StepQ s A s' B n y ∧ Km w0 w' Z b s' ∧ Kp Z w w' := by
  obtain ⟨S, hC, ho⟩ := h.is
  exact (step_sim hC c).mono fun e w' ⟨s', B, n, y, he, r, q⟩ => ⟨s', B, n, y, he, q, (h.step ho r).1, (h.step ho r).2⟩
theorem km_start (h : Km w0 w Z b s) (c : Cyc s A) :
    Calls Tryz.prog 52 #[ptr b] w fun e w' => ∃ s' B, e = .returned (.bool (!s.mv)) ∧ StartQ s A s' B ∧ Km w0 w' Z b s' ∧ Kp Z w w' := by
  obtain ⟨S, hC, ho⟩ := h.is
  exact (start_sim hC c).mono fun e w' ⟨s', B, he, r, q⟩ => ⟨s', B, he, q, (h.step ho r).1, (h.step ho r).2⟩
theorem Km.act {fn : FuncId} {args : Array Value} {op : Op} (h : Km w0 w Z b s) (c : ∀ S, Cr w b S s → Calls Tryz.prog fn args w (ActC w b S s A op)) :
    Calls Tryz.prog fn args w fun e w' => ∃ s' B E, e = .returned (.int .i64 E) ∧ ActQ s A op E s' B ∧ Km w0 w' Z b s' ∧ Kp Z w w' := by
  obtain ⟨S, hC, ho⟩ := h.is
  exact (c S hC).mono fun e w' ⟨s', B, E, he, r, q⟩ => ⟨s', B, E, he, q, (h.step ho r).1, (h.step ho r).2⟩

/-- What a core counted so far is little. -/
def Few (s : Co) : Prop := 0 ≤ s.d.al ∧ s.d.al ≤ 4611686018427387904 ∧ 0 ≤ s.d.wd ∧ s.d.wd ≤ 4611686018427387904

theorem km_make (h : Km w0 w Z b s) (c : Cyc s A) (f : Few s) (a p q : Int) (q1 : q ≤ 9223372036854775807) :
    Calls Tryz.prog 33 #[ptr b, .int .i64 a, .int .i64 p, .int .i64 q] w fun e w' => ∃ s' B E, e = .returned (.int .i64 E) ∧ ActQ s A (.make a p q) E s' B ∧ Km w0 w' Z b s' ∧ Kp Z w w' :=
  Km.act h fun _ hC => make_cyc hC c a p q q1 f.1 f.2.1 f.2.2.1 f.2.2.2
theorem km_get (h : Km w0 w Z b s) (c : Cyc s A) (d a n : Int) :
    Calls Tryz.prog 35 #[ptr b, .int .i64 d, .int .i64 a, .int .i64 n] w fun e w' => ∃ s' B E, e = .returned (.int .i64 E) ∧ ActQ s A (.get d a n) E s' B ∧ Km w0 w' Z b s' ∧ Kp Z w w' :=
  Km.act h fun _ hC => get_cyc hC c d a n
theorem km_set (h : Km w0 w Z b s) (c : Cyc s A) (a n f : Int) :
    Calls Tryz.prog 41 #[ptr b, .int .i64 a, .int .i64 n, .int .i64 f] w fun e w' => ∃ s' B E, e = .returned (.int .i64 E) ∧ ActQ s A (.set a n f) E s' B ∧ Km w0 w' Z b s' ∧ Kp Z w w' :=
  Km.act h fun _ hC => set_cyc hC c a n f
theorem km_write (h : Km w0 w Z b s) (c : Cyc s A) (a n v : Int) :
    Calls Tryz.prog 40 #[ptr b, .int .i64 a, .int .i64 n, .int .u64 v] w fun e w' => ∃ s' B E, e = .returned (.int .i64 E) ∧ ActQ s A (.write a n v) E s' B ∧ Km w0 w' Z b s' ∧ Kp Z w w' :=
  Km.act h fun _ hC => write_cyc hC c a n v
theorem km_clear (h : Km w0 w Z b s) (c : Cyc s A) (a : Int) :
    Calls Tryz.prog 44 #[ptr b, .int .i64 a] w fun e w' => ∃ s' B E, e = .returned (.int .i64 E) ∧ ActQ s A (.clear a) E s' B ∧ Km w0 w' Z b s' ∧ Kp Z w w' :=
  Km.act h fun _ hC => clear_cyc hC c a
theorem km_copy (h : Km w0 w Z b s) (c : Cyc s A) (a f : Int) :
    Calls Tryz.prog 42 #[ptr b, .int .i64 a, .int .i64 f] w fun e w' => ∃ s' B E, e = .returned (.int .i64 E) ∧ ActQ s A (.copy a f) E s' B ∧ Km w0 w' Z b s' ∧ Kp Z w w' :=
  Km.act h fun _ hC => copy_cyc hC c a f

theorem km_moving (h : Km w0 w Z b s) : w.cell? ⟨b, 21, none⟩ = some (.bool s.mv) := by
  obtain ⟨S, hC, _⟩ := h.is
  obtain ⟨_, _, _, _, hc, _⟩ := hC.cell
  exact hc 21
end
end Gc
end Go.Proofs.YthmhehehomieiaaGreat

/- How much of the pages is in use; Stats, whatever stands in a heap. -/
namespace Go.Proofs.YthmhehehomieiaaGreat
open Go.RowKit

theorem words_pos {F G : Int} {pgs : List Pg} (g0 : 1 ≤ G) (wf : WF G pgs) {c : Rc} (hc : c ∈ cellsP F G pgs) : 0 ≤ c.words := by
  obtain ⟨i, x, hx, hm⟩ := mem_cellsP.1 hc
  cases x with
  | free => cases hm
  | rest => cases hm
  | big k =>
    obtain rfl : c = ⟨F + i * G, k * G, true, true⟩ := by simpa [Pg.cells] using hm
    exact Int.mul_nonneg (by omega) (by omega)
  | blk s us =>
    obtain ⟨j, _, rfl⟩ := List.mem_map.1 (show c ∈ (List.range us.length).map _ from hm)
    have := (wf.blk i s us hx).1
    show 0 ≤ s
    omega

theorem apart_sum : ∀ (L : List Rc) (a b : Int), a ≤ b → L.Pairwise (fun c d => c.pos + c.words ≤ d.pos) → (∀ c ∈ L, a ≤ c.pos ∧ c.pos + c.words ≤ b ∧ 0 ≤ c.words) → 0 ≤ usedI L ∧ usedI L ≤ b - a
  | [], _, _, _, _, _ => ⟨Int.le_refl _, by show (0 : Int) ≤ _; omega⟩
  | c :: L, a, b, _, hp, hw => by
    obtain ⟨h1, h2⟩ := List.pairwise_cons.1 hp
    obtain ⟨k1, k2, k3⟩ := hw c (by simp)
    obtain ⟨z1, z2⟩ := apart_sum L (c.pos + c.words) b k2 h2 fun d hd => ⟨h1 d hd, (hw d (by simp [hd])).2⟩
    unfold usedI
    split <;> omega

theorem used_in {F G : Int} {pgs : List Pg} (g0 : 1 ≤ G) (wf : WF G pgs) : 0 ≤ usedI (cellsP F G pgs) ∧ usedI (cellsP F G pgs) ≤ pgs.length * G := by
  have p0 : (0 : Int) ≤ pgs.length * G := Int.mul_nonneg (by omega) (by omega)
  have h := apart_sum (cellsP F G pgs) F (F + pgs.length * G) (by omega) ?_ fun c hc => ⟨(cells_within g0 wf hc).1, (cells_within g0 wf hc).2, words_pos g0 wf hc⟩
  · omega
  · exact (List.pairwise_map.1 (cellsP_rise (F := F) g0 wf)).imp_of_mem fun hc hd ne => cells_apart g0 wf hc hd ne

namespace Gc
section
variable {w0 w w' : World} {Z Z' : Nat → Prop} {b : Nat} {s s' : Co} {A B : Hp}

theorem Cyc.used (c : Cyc s A) : 0 ≤ s.used ∧ s.used ≤ s.cf.ps * s.cf.pz := by
  have := used_in (F := 1 + 2 * s.cf.nu) c.sim.laid.g0 c.sim.laid.wf
  rw [c.sim.pl] at this
  exact this

theorem km_stats (h : Km w0 w Z b s) (c : Cyc s A) :
    Calls Tryz.prog 20 #[ptr b] w fun e w' => e = .returned (stV8 s.d.al s.d.wd s.d.pr s.d.mi s.d.ma (s.yu + s.yv) s.used (s.cf.ps * s.cf.pz - s.used)) ∧ Below w.heap.size w w' := by
  obtain ⟨S, hC⟩ := h.cr
  have := c.used
  have := hC.may.words
  exact stats_any hC (by omega) (by omega)
end
end Gc
end Go.Proofs.YthmhehehomieiaaGreat

/- The walk of awake, stage 14. -/
namespace Go.Proofs.YthmhehehomieiaaGreat
namespace Gc
open Go.RowKit

def aC : Cfg := cfgOf 3 40 80 20
def aS0 (pt : Pts) : Co := Co.fresh aC pt
def aH0 : Hp := Hp.none_ aC.ha
def aS1 (pt : Pts) : Co := (aS0 pt).made 0 1 1
def aH1 : Hp := { aH0.make 1 ⟨0, 0, false, false, 1, [0], [0]⟩ with hs := [1, 0, 0, 0, 0] }
def aS2 (pt : Pts) : Co := (aS1 pt).made 1 0 1
def aH2 : Hp := { aH1.make 5 ⟨0, 0, false, false, 5, [], [0]⟩ with hs := [1, 5, 0, 0, 0] }
def aS3 (pt : Pts) : Co := (aS2 pt).wrote ((aS2 pt).ws.set 3 5)
def aH3 : Hp := aH2.put 1 ⟨0, 0, false, false, 1, [5], [0]⟩
def aS4 (pt : Pts) : Co := (aS3 pt).wrote ((aS3 pt).ws.set 7 5)
def aH4 : Hp := aH3.put 5 ⟨0, 0, false, false, 5, [], [5]⟩
def aS5 (pt : Pts) : Co := (aS4 pt).made 2 3 0
def aH5 : Hp := { aH4.make 8 ⟨0, 0, false, false, 8, [0, 0, 0], []⟩ with hs := [1, 5, 8, 0, 0] }
def aS6 (pt : Pts) : Co := (aS5 pt).put [1, 5, 0, 0, 0]
def aH6 : Hp := { aH5 with hs := [1, 5, 0, 0, 0] }
def aS7 (pt : Pts) : Co := (aS6 pt).put [1, 0, 0, 0, 0]
def aH7 : Hp := { aH6 with hs := [1, 0, 0, 0, 0] }

section
variable {pt : Pts} {E : Int} {s' : Co} {B : Hp}
theorem aw_1 (h : Ent (aS0 pt) aH0 (.make 0 1 1) E s' B) : E = 0 ∧ s' = aS1 pt ∧ B = aH1 := h.make_yes rfl (by decide) (by decide) (of_decide_eq_true rfl) (of_decide_eq_true rfl)
theorem aw_2 (h : Ent (aS1 pt) aH1 (.make 1 0 1) E s' B) : E = 0 ∧ s' = aS2 pt ∧ B = aH2 := h.make_yes rfl (by decide) (by decide) (of_decide_eq_true rfl) (of_decide_eq_true rfl)
theorem aw_3 (h : Ent (aS2 pt) aH2 (.set 0 0 1) E s' B) : E = 0 ∧ s' = aS3 pt ∧ B = aH3 := h.set_yes (o := ⟨0, 0, false, false, 1, [0], [0]⟩) rfl (of_decide_eq_true rfl) rfl rfl rfl (by show (1 : Int) ∉ []; simp)
theorem aw_4 (h : Ent (aS3 pt) aH3 (.write 1 0 5) E s' B) : E = 0 ∧ s' = aS4 pt ∧ B = aH4 := h.write_yes (o := ⟨0, 0, false, false, 5, [], [0]⟩) rfl (of_decide_eq_true rfl) rfl rfl
theorem aw_5 (h : Ent (aS4 pt) aH4 (.make 2 3 0) E s' B) : E = 0 ∧ s' = aS5 pt ∧ B = aH5 := h.make_yes rfl (by decide) (by decide) (of_decide_eq_true rfl) (of_decide_eq_true rfl)
theorem aw_6 (h : Ent (aS5 pt) aH5 (.clear 2) E s' B) : E = 0 ∧ s' = aS6 pt ∧ B = aH6 := h.clear_yes rfl
theorem aw_7 (h : Ent (aS6 pt) aH6 (.clear 1) E s' B) : E = 0 ∧ s' = aS7 pt ∧ B = aH7 := h.clear_yes rfl
end

theorem aw_held (n : Int) : n ∈ [(1 : Int), 5] ↔ aH7.gph.Held n := by
  have hs : aH7.gph.hs = [1, 0, 0, 0, 0] := rfl
  have n1 : aH7.gph.nd 1 = some ([5], [0]) := rfl
  have n5 : aH7.gph.nd 5 = some ([], [5]) := rfl
  have h1 : aH7.gph.Held 1 := .root (by rw [hs]; simp) (by omega)
  constructor
  · intro h
    rcases (by simpa using h : n = 1 ∨ n = 5) with rfl | rfl
    · exact h1
    · exact .ref h1 n1 (by simp) (by omega)
  · intro h
    induction h with
    | root hh n0 =>
      rw [hs] at hh
      simp at hh
      rcases hh with rfl | rfl
      · simp
      · exact absurd rfl n0
    | ref _ hd hr r0 ih =>
      rcases (by simpa using ih : _ = (1 : Int) ∨ _ = (5 : Int)) with rfl | rfl
      · rw [n1] at hd; cases hd
        simp at hr
        simp [hr]
      · rw [n5] at hd; cases hd
        simp at hr

/-- So far the cycle of awake goes on, or has ended. -/
def AwI (w0 w : World) (b : Nat) (i : Nat) (m : Bool) : Prop :=
  ∃ s A, Km w0 w noZ b s ∧ Cyc s A ∧ s.cf = aC ∧ s.mv = m ∧ (∃ f, Tight s A aH7.gph f) ∧ (m = true → left_ s A + i ≤ 6 ∧ s.d.mi = 0) ∧ (m = false → s.d.mi = 1)

section
variable {w0 w w1 : World} {b i : Nat} {m : Bool}

theorem AwI.moving (h : AwI w0 w b i m) : w.cell? ⟨b, 21, none⟩ = some (.bool m) := by
  obtain ⟨s, A, k, _, _, rfl, _⟩ := h
  exact km_moving k

theorem aw_begun {pt : Pts} (k : Km w0 w noZ b (aS7 pt)) (c : Cyc (aS7 pt) aH7) :
    Calls Tryz.prog 52 #[ptr b] w fun e w' => e = .returned (.bool true) ∧ AwI w0 w' b 0 true := by
  refine (km_start k c).mono ?_
  rintro e w' ⟨s', B, he, q, k2, _⟩
  obtain ⟨pr, lf⟩ := q.begun rfl
  refine ⟨he, s', B, k2, q.cyc, q.cf, q.mv, pr.tight ⟨id, tight_begun c rfl rfl ?_⟩, fun _ => ⟨?_, ?_⟩, fun e => by cases e⟩
  · intro p hp o ho
    have hp : p ∈ [(1 : Int), 5, 8] := hp
    have t : (aS7 pt).cf.tn = 2 := by show (80 : Int) / 64 % 3 + 1 = 2; decide
    rw [t]
    rcases (by simpa using hp : p = 1 ∨ p = 5 ∨ p = 8) with rfl | rfl | rfl
    · have : aH7.ob 1 = some ⟨0, 0, false, false, 1, [5], [0]⟩ := rfl
      rw [this] at ho; cases ho; decide
    · have : aH7.ob 5 = some ⟨0, 0, false, false, 5, [], [5]⟩ := rfl
      rw [this] at ho; cases ho; decide
    · have : aH7.ob 8 = some ⟨0, 0, false, false, 8, [0, 0, 0], []⟩ := rfl
      rw [this] at ho; cases ho; decide
  · have e1 : aH7.F.length = 3 := rfl
    have e2 : (aS7 pt).ry.length = 0 := rfl
    have e3 : (aS7 pt).rn.count true = 0 := by
      show (List.replicate _ false).count true = 0
      exact List.count_eq_zero.2 fun h => by cases (List.mem_replicate.1 h).2
    omega
  · have := q.nums
    unfold nums at this
    injection this

theorem aw_again (h : AwI w0 w b 0 true) : Calls Tryz.prog 52 #[ptr b] w fun e w' => e = .returned (.bool false) ∧ AwI w0 w' b 0 true := by
  obtain ⟨s, A, k, c, cf, hm, tg, l1, l2⟩ := h
  refine (km_start k c).mono ?_
  rintro e w' ⟨s', B, he, q, k2, _⟩
  obtain ⟨rfl, rfl⟩ := q.was hm
  rw [hm] at he
  exact ⟨he, s', B, k2, q.cyc, cf, hm, tg, l1, l2⟩

theorem StepQ.tight {s s' : Co} {A B : Hp} {n : Int} {y : Bool} (q : StepQ s A s' B n y) (hm : s.mv = true) {G : Gph} (g : ∃ f, Tight s A G f) : ∃ f, Tight s' B G f := by
  obtain ⟨_, _, q1, q2⟩ := q.yes hm
  cases y
  · obtain ⟨_, ⟨l, rfl⟩, rfl, rp⟩ := q2 rfl
    obtain ⟨f, g⟩ := g
    exact ⟨f, rp _ _ g.rep, g.tight, g.old, fun p hp => by cases hp⟩
  · exact (q1 rfl).2.2.tight g

theorem aw_step (h : AwI w0 w b i true) : Calls Tryz.prog 50 #[ptr b] w fun e w' => ∃ n y, e = .returned (.tuple #[.int .i64 n, .bool y]) ∧ AwI w0 w' b (i + 1) y := by
  obtain ⟨s, A, k, c, cf, hm, tg, l1, l2⟩ := h
  refine (km_step k c).mono ?_
  rintro e w' ⟨s', B, n, y, he, q, k2, _⟩
  obtain ⟨l1, m1⟩ := l1 rfl
  obtain ⟨_, _, q1, q2⟩ := q.yes hm
  refine ⟨n, y, he, s', B, k2, q.cyc, q.cf.trans cf, q.mv, q.tight hm tg, fun e => ?_, fun e => ?_⟩
  · obtain ⟨h1, h2, _⟩ := q1 e
    exact ⟨by omega, by rw [h2]; exact m1⟩
  · rw [(q2 e).1, m1]; unfold wrap64; omega

/-- What is so when the cycle of awake has ended. -/
theorem aw_end (h : AwI w0 w b i false) :
    ∃ s A p q, Km w0 w noZ b s ∧ Cyc s A ∧ s.cf = aC ∧ s.mv = false ∧ s.yu + s.yv = 7 ∧ s.d.mi = 1 ∧ s.hs = [p, 0, 0, 0, 0] ∧ A.E = [] ∧ p ≠ 0 ∧ (∃ o, A.ob p = some o ∧ o.rs[0]? = some q) ∧ ∃ o, A.ob q = some o ∧ o.ss[0]? = some 5 := by
  obtain ⟨s, A, k, c, cf, hm, ⟨f, g⟩, l1, l2⟩ := h
  obtain ⟨hE, _⟩ := c.idle hm
  have now : ∀ y, A.now y = y := fun y => Hp.now_no (by rw [hE]; simp)
  have nid : A.now = id := funext now
  obtain ⟨y1, y2⟩ := g.words c hm (R := [1, 5]) (by decide) aw_held
  have e7 : ([(1 : Int), 5].map aH7.gph.szn).sum = 7 := rfl
  rw [e7] at y1
  have h1 := (aw_held 1).1 (by simp)
  have h5 := (aw_held 5).1 (by simp)
  obtain ⟨d1, o1, a1, a2, _, a4, a5⟩ := g.rep.node 1 h1
  obtain ⟨d5, o5, b1, b2, _, b4, b5⟩ := g.rep.node 5 h5
  have n1 : aH7.gph.nd 1 = some ([5], [0]) := rfl
  have n5 : aH7.gph.nd 5 = some ([], [5]) := rfl
  rw [n1] at a1; cases a1
  rw [n5] at b1; cases b1
  rw [nid, List.map_id] at a4
  have hh := g.rep.hs
  have ghs : aH7.gph.hs = [1, 0, 0, 0, 0] := rfl
  rw [nid, List.map_id, ghs] at hh
  simp only [List.map_cons, List.map_nil, g.rep.z] at hh
  refine ⟨s, A, f 1, f 5, k, c, cf, hm, by rw [y1, y2]; rfl, l2 rfl, c.sim.hs.symm.trans hh, hE, by have := c.inv.ob_pos a2; omega, ⟨o1, a2, by rw [a4]; rfl⟩, ⟨o5, b2, by rw [b5]; rfl⟩⟩
end


/-- What is so to the end of awake. -/
def AwF (w0 w : World) (b : Nat) : Prop :=
  ∃ s A q o, Km w0 w noZ b s ∧ Cyc s A ∧ s.mv = false ∧ s.yu + s.yv = 7 ∧ s.d.mi = 1 ∧ s.has 1 = true ∧ s.at_ 1 = q ∧ A.ob q = some o ∧ o.ss[0]? = some 5

section
variable {w0 w w1 : World} {b i : Nat}
theorem aw_get (h : AwI w0 w b i false) : Calls Tryz.prog 35 #[ptr b, .int .i64 1, .int .i64 0, .int .i64 0] w fun e w' => e = .returned (.int .i64 0) ∧ AwF w0 w' b := by
  obtain ⟨s, A, p, q, k, c, cf, hm, yy, mi, hs, hE, p0, ⟨o, ho, hq⟩, o5, ho5, h5⟩ := aw_end h
  have e0 : s.has 0 = true := by unfold Co.has; rw [hs]; rfl
  have e1 : s.has 1 = true := by unfold Co.has; rw [hs]; rfl
  have a0 : s.at_ 0 = p := by unfold Co.at_; rw [if_pos e0, hs]; rfl
  refine (km_get k c 1 0 0).mono ?_
  rintro e w' ⟨s', B, E, he, qq, k2, _⟩
  obtain ⟨rfl, rfl, rfl⟩ := qq.ent.get_yes e0 (by rw [a0]; exact p0) (by rw [a0]; exact ho) e1 (by omega) hq hE
  have hs2 : (s.put (s.hs.set (1 : Int).toNat q)).hs = [p, q, 0, 0, 0] := by show s.hs.set 1 q = _; rw [hs]; rfl
  have f1 : (s.put (s.hs.set (1 : Int).toNat q)).has 1 = true := by unfold Co.has; rw [hs2]; rfl
  exact ⟨he, _, _, q, o5, k2, qq.cyc, hm, yy, mi, f1, by unfold Co.at_; rw [if_pos f1, hs2]; rfl, ho5, h5⟩
theorem aw_read (h : AwF w0 w b) : Calls Tryz.prog 37 #[ptr b, .int .i64 1, .int .i64 0] w fun e w' => e = .returned (.tuple #[.int .u64 5, .int .i64 0]) ∧ AwF w0 w' b := by
  obtain ⟨s, A, q, o, k, c, hm, yy, mi, e1, a1, ho, h5⟩ := h
  refine (k.look fun S hC => read_cyc hC c e1 (by rw [a1]; exact ho) (by omega) h5).mono ?_
  rintro e w' ⟨he, k2, _⟩
  exact ⟨he, s, A, q, o, k2, c, hm, yy, mi, e1, a1, ho, h5⟩
theorem aw_last (h : AwF w0 w b) : Calls Tryz.prog 50 #[ptr b] w fun e w' => e = .returned (.tuple #[.int .i64 0, .bool false]) ∧ AwF w0 w' b := by
  obtain ⟨s, A, q, o, k, c, hm, yy, mi, e1, a1, ho, h5⟩ := h
  refine (km_step k c).mono ?_
  rintro e w' ⟨s', B, n, y, he, qq, k2, _⟩
  obtain ⟨rfl, rfl, rfl⟩ := qq.no hm
  have : y = false := qq.mv.symm.trans hm
  subst this
  exact ⟨he, s', B, q, o, k2, qq.cyc, hm, yy, mi, e1, a1, ho, h5⟩
theorem aw_stats (h : AwF w0 w b) : Calls Tryz.prog 20 #[ptr b] w fun e w' => (∃ a c d f o r, e = .returned (stV8 a c d 1 f 7 o r)) ∧ Below w.heap.size w w' := by
  obtain ⟨s, A, q, o, k, c, hm, yy, mi, _⟩ := h
  have := km_stats k c
  rw [yy, mi] at this
  exact this.mono fun e w' ⟨he, bl⟩ => ⟨⟨_, _, _, _, _, _, he⟩, bl⟩
theorem AwF.keep (h : AwF w0 w b) (f : Below w.heap.size w w1) : AwF w0 w1 b := by
  obtain ⟨s, A, q, o, k, r⟩ := h
  exact ⟨s, A, q, o, k.keep f, r⟩
theorem AwF.moving (h : AwF w0 w b) : w.cell? ⟨b, 21, none⟩ = some (.bool false) := by
  obtain ⟨s, A, q, o, k, _, hm, _⟩ := h
  rw [← hm]
  exact km_moving k
theorem AwF.bel (h : AwF w0 w b) : Below w0.heap.size w0 w := by
  obtain ⟨s, A, q, o, k, _⟩ := h
  exact k.bel
theorem AwI.six (h : AwI w0 w b i true) : i ≤ 6 := by
  obtain ⟨s, A, k, c, cf, hm, tg, l1, l2⟩ := h
  have := (l1 rfl).1
  omega
theorem stat_five (a c d e f y o r : Int) (w : World) : (Instr.field 31 (stV8 a c d e f y o r) 5).run Tryz.prog w = .ok (.int .i64 y) w := by kernel_rfl
theorem stat_three (a c d e f y o r : Int) (w : World) : (Instr.field 31 (stV8 a c d e f y o r) 3).run Tryz.prog w = .ok (.int .i64 e) w := by kernel_rfl
end

section
variable (pt : Pts)
theorem fw0 : Few (aS0 pt) := ⟨of_decide_eq_true rfl, of_decide_eq_true rfl, of_decide_eq_true rfl, of_decide_eq_true rfl⟩
theorem fw1 : Few (aS1 pt) := ⟨of_decide_eq_true rfl, of_decide_eq_true rfl, of_decide_eq_true rfl, of_decide_eq_true rfl⟩
theorem fw4 : Few (aS4 pt) := ⟨of_decide_eq_true rfl, of_decide_eq_true rfl, of_decide_eq_true rfl, of_decide_eq_true rfl⟩
end

set_option maxHeartbeats 8000000 in
set_option maxRecDepth 100000 in
theorem awake14_walk (w : World) : Calls Tryz.prog 46 #[] w fun e w' => e = .returned (.bool true) ∧ Below w.heap.size w w' := by
  have by_ : ∀ n : Int, 0 ≤ n → n ≤ 255 → By n := fun n h0 h1 => ⟨h0, h1⟩
  have HM := Lib.hid (cfgOf_may 3 40 80 20 (by_ _ (by omega) (by omega)) (by_ _ (by omega) (by omega)) (by_ _ (by omega) (by omega)) (by_ _ (by omega) (by omega)))
  have HC := Lib.hid (config14_any 3 40 80 20 (by_ _ (by omega) (by omega)) (by_ _ (by omega) (by omega)) (by_ _ (by omega) (by omega)) (by_ _ (by omega) (by omega)) w)
  clear by_
  go_enter Tryz.func46, Tryz.ntmps46
  go_wp2_with fail
  refine HC.out.mono ?_
  rintro e w1 ⟨rfl, b1⟩
  have HN := Lib.hid (km_new (w0 := w) (Z := noZ) HM.out b1 (fun _ e => e.elim))
  clear b1 HC
  go_wp2_with fail
  refine HN.out.mono ?_
  rintro e w2 ⟨b, pt, rfl, k2, _⟩
  have K2 := Lib.hid (show Km w w2 noZ b (aS0 pt) from k2)
  have C2 : Hid (Cyc (aS0 pt) aH0) := Lib.hid (fresh_cyc HM.out pt)
  clear k2 HN HM

  go_wp2_with fail
  refine (km_make K2.out C2.out (fw0 pt) 0 1 1 (by omega)).mono ?_
  rintro e w3 ⟨s', B, E, rfl, q, k, _⟩
  obtain ⟨rfl, rfl, rfl⟩ := aw_1 q.ent
  have K3 := Lib.hid k
  have C3 := Lib.hid q.cyc
  clear q k K2 C2

  go_wp2_with fail
  refine (km_make K3.out C3.out (fw1 pt) 1 0 1 (by omega)).mono ?_
  rintro e w4 ⟨s', B, E, rfl, q, k, _⟩
  obtain ⟨rfl, rfl, rfl⟩ := aw_2 q.ent
  have K4 := Lib.hid k
  have C4 := Lib.hid q.cyc
  clear q k K3 C3

  go_wp2_with fail
  refine (km_set K4.out C4.out 0 0 1).mono ?_
  rintro e w5 ⟨s', B, E, rfl, q, k, _⟩
  obtain ⟨rfl, rfl, rfl⟩ := aw_3 q.ent
  have K5 := Lib.hid k
  have C5 := Lib.hid q.cyc
  clear q k K4 C4

  go_wp2_with fail
  refine (km_write K5.out C5.out 1 0 5).mono ?_
  rintro e w6 ⟨s', B, E, rfl, q, k, _⟩
  obtain ⟨rfl, rfl, rfl⟩ := aw_4 q.ent
  have K6 := Lib.hid k
  have C6 := Lib.hid q.cyc
  clear q k K5 C5

  go_wp2_with fail
  refine (km_make K6.out C6.out (fw4 pt) 2 3 0 (by omega)).mono ?_
  rintro e w7 ⟨s', B, E, rfl, q, k, _⟩
  obtain ⟨rfl, rfl, rfl⟩ := aw_5 q.ent
  have K7 := Lib.hid k
  have C7 := Lib.hid q.cyc
  clear q k K6 C6

  go_wp2_with fail
  refine (km_clear K7.out C7.out 2).mono ?_
  rintro e w8 ⟨s', B, E, rfl, q, k, _⟩
  obtain ⟨rfl, rfl, rfl⟩ := aw_6 q.ent
  have K8 := Lib.hid k
  have C8 := Lib.hid q.cyc
  clear q k K7 C7

  go_wp2_with fail
  refine (km_clear K8.out C8.out 1).mono ?_
  rintro e w9 ⟨s', B, E, rfl, q, k, _⟩
  obtain ⟨rfl, rfl, rfl⟩ := aw_7 q.ent
  have K9 := Lib.hid k
  have C9 := Lib.hid q.cyc
  clear q k K8 C8

  go_wp2_with fail
  refine (aw_begun K9.out C9.out).mono ?_
  rintro e w10 ⟨rfl, i10⟩
  have I10 := Lib.hid i10
  clear i10 K9 C9
  go_wp2_with fail
  refine (aw_again I10.out).mono ?_
  rintro e w11 ⟨rfl, i11⟩
  have I11 := Lib.hid i11
  clear i11 I10
  go_wp2_with fail
  go_loopw [4] (fun s4 wr => ∃ (i : Nat) (m : Bool), i ≤ 7 ∧ s4 = .int .i64 i ∧ Hid (AwI w wr b i m)) (fun s4 _ => 50 - (intOf s4).toNat)
  case atStart => exact ⟨0, true, by omega, rfl, I11⟩
  case round =>
    clear I11
    obtain ⟨i, m, hi, rfl, HI⟩ := hrel
    have c21 := HI.out.moving
    cases m
    · have i50 : (i : Int) < 50 := by omega
      go_wp2_with fail
      refine (aw_get HI.out).mono ?_
      rintro e w12 ⟨rfl, f12⟩
      have F12 := Lib.hid f12
      clear f12 HI c21
      go_wp2_with fail
      refine (aw_read F12.out).mono ?_
      rintro e w13 ⟨rfl, f13⟩
      have F13 := Lib.hid f13
      clear f13 F12
      go_wp2_with fail
      refine (aw_last F13.out).mono ?_
      rintro e w14 ⟨rfl, f14⟩
      have c21 := f14.moving
      have F14 := Lib.hid f14
      clear f14 F13
      go_wp2_with fail
      refine (aw_stats F14.out).mono ?_
      rintro e w15 ⟨⟨a1, a2, a3, a4, a5, a6, rfl⟩, b15⟩
      have F15 := Lib.hid (F14.out.keep b15)
      clear b15 F14 c21
      have h5 := stat_five a1 a2 a3 1 a4 7 a5 a6 w15
      go_wp2_with fail
      refine (aw_stats F15.out).mono ?_
      rintro e w16 ⟨⟨p1, p2, p3, p4, p5, p6, rfl⟩, b16⟩
      have BE := Lib.hid (below_trans F15.out.bel b16)
      clear b16 F15 h5
      have h3 := stat_three p1 p2 p3 1 p4 7 p5 p6 w16
      go_wp2
      go_ret
      exact ⟨rfl, BE.out⟩
    · have i6 := HI.out.six
      have i50 : (i : Int) < 50 := by omega
      go_wp2_with fail
      refine (aw_step HI.out).mono ?_
      rintro e w12 ⟨n, y, rfl, k⟩
      have K := Lib.hid k
      clear k HI c21
      go_wp2
      go_roundw
      case rel => exact ⟨i + 1, y, by omega, by go_num, K⟩
      case measure => simp [intOf]; omega

end Gc
end Go.Proofs.YthmhehehomieiaaGreat
