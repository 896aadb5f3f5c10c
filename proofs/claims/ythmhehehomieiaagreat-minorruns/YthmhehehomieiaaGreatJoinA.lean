/- Texts of the layers below, joined: GcA GcB GcC GcD Law Frm Flags ArenaA ArenaB ArenaC ArenaD ArenaV HeadA Bits HeadB HeadC HeadV ObjA ObjB ObjC Lists GcE GcF CutI CutN PagesN RefN RefS RefT QTail RefU QuA RefV RefW RefX RefY PgA PgB PgC. -/
import Derived.Test.YthmhehehomieiaaGreatRows
import Derived.WalkKit
import Derived.ProofKit
import Derived.OpenShut
import Derived.ChangeOld
import Derived.Below
import Derived.Carry
import Derived.Deep.Fields
import Derived.Lib.Hide
import Derived.Laws.MakeOwn
import Derived.OwnWalk
import Derived.Deep.QuietTactic
import Derived.Laws.CopyOwn
import Derived.BigRegion
import Derived.IntWalk
import Derived.Laws.BitsAllLaws
import Derived.ChangeSlices
import Derived.Laws.AppendOwn
import Derived.Maps.AppendAt
import Derived.Deep.AppendLies
import Derived.Deep.DeepCutAuto
import Derived.Deep.CutBlock
import Derived.BigQuiet
import Derived.StillTail
import Derived.Deep.Quiet
import Derived.ArgAppend
import Derived.Deep.RegionLaw
import Derived.Deep.RegionHeld3


/- A heap of two generations without words: its objects by their places; what each thing that happens to it keeps. Of numbers and lists alone. -/
namespace Go.Proofs.YthmhehehomieiaaGreat
namespace Gc

/-- What is known of an object. -/
structure Ob where
  age : Int
  par : Int
  grey : Bool
  noted : Bool
  way : Int
  rs : List Int
  ss : List Int

/-- A heap: its objects, by their places; the places of the half that is filled, of the other one, of what is old; what handles hold; what waits; how many of the half the cursor has passed; the places that are to be looked at, now or later; those of them that are just being looked at. -/
structure Hp where
  ob : Int → Option Ob
  F : List Int
  E : List Int
  O : List Int
  hs : List Int
  row : List Int
  k : Nat
  X : Int → Prop
  Y : Int → Prop
  D : Int → Prop

def upd (f : Int → Option Ob) (p : Int) (o : Ob) (q : Int) : Option Ob := if q = p then some o else f q
theorem upd_self {f : Int → Option Ob} {p : Int} {o : Ob} : upd f p o p = some o := by simp [upd]
theorem upd_ne {f : Int → Option Ob} {p q : Int} {o : Ob} (h : q ≠ p) : upd f p o q = f q := by simp [upd, h]

/-- Where something is now. -/
def Hp.now (A : Hp) (p : Int) : Int := if p ∈ A.E then (match A.ob p with | some o => o.way | none => p) else p

/-- May a reference be so? -/
def Hp.ok (A : Hp) (r : Int) : Prop := r = 0 ∨ r ∈ A.F ∨ r ∈ A.E ∨ r ∈ A.O

/-- What holds at all times; of the old object x what it refers to need not be noted just now. -/
structure Inv (x : Int) (A : Hp) : Prop where
  dom : ∀ p, (∃ o, A.ob p = some o) ↔ p ∈ A.F ∨ p ∈ A.E ∨ p ∈ A.O
  pos : ∀ p, p ∈ A.F ∨ p ∈ A.E ∨ p ∈ A.O → 0 < p
  fe : ∀ p ∈ A.F, p ∉ A.E
  fo : ∀ p ∈ A.F, p ∉ A.O
  eo : ∀ p ∈ A.E, p ∉ A.O
  nf : A.F.Nodup
  ne : A.E.Nodup
  hs : ∀ h ∈ A.hs, A.ok h
  ref : ∀ p o, A.ob p = some o → ∀ r ∈ o.rs, A.ok r
  old : ∀ p o, p ∈ A.O → p ≠ x → A.ob p = some o → ∀ r ∈ o.rs, (r ∈ A.F → o.noted = true ∨ p ∈ A.row) ∧ (r ∈ A.E → p ∈ A.row ∨ (o.noted = true ∧ A.X p))
  noted : ∀ p o, A.ob p = some o → o.noted = true → p ∈ A.O ∧ (A.X p ∨ A.Y p)
  self : ∀ p o, p ∈ A.F → A.ob p = some o → o.way = p
  way : ∀ p o, p ∈ A.E → A.ob p = some o → o.way = p ∨ o.way ∈ A.F ∨ o.way ∈ A.O
  cur : ∀ p ∈ A.F.take A.k, ∀ o, A.ob p = some o → ∀ r ∈ o.rs, r ∉ A.E
  kl : A.k ≤ A.F.length
  row : ∀ p ∈ A.row, p ∈ A.O
  xo : ∀ p, A.X p ∨ A.Y p → p ∈ A.O

section
variable {x : Int} {A : Hp}

theorem Inv.weak (h : Inv 0 A) : Inv x A := { h with old := fun p o hp _ ho => h.old p o hp (by have := h.pos p (.inr (.inr hp)); omega) ho }
theorem Inv.strong (h : Inv x A) (hx : ∀ o, x ∈ A.O → A.ob x = some o → ∀ r ∈ o.rs, (r ∈ A.F → o.noted = true ∨ x ∈ A.row) ∧ (r ∈ A.E → x ∈ A.row ∨ (o.noted = true ∧ A.X x))) : Inv 0 A :=
  { h with
    old := fun p o hp _ ho => by
      by_cases e : p = x
      · subst e; exact hx o hp ho
      · exact h.old p o hp e ho }

theorem Hp.now_no {p : Int} (h : p ∉ A.E) : A.now p = p := by unfold Hp.now; rw [if_neg h]
theorem Hp.now_yes {p : Int} {o : Ob} (h : p ∈ A.E) (ho : A.ob p = some o) : A.now p = o.way := by unfold Hp.now; rw [if_pos h, ho]

theorem Inv.now_in (h : Inv x A) {p : Int} (hp : A.ok p) : A.now p = 0 ∧ p = 0 ∨ A.now p ∈ A.F ∨ A.now p ∈ A.O ∨ (A.now p = p ∧ p ∈ A.E) := by
  unfold Hp.now
  rcases hp with rfl | e | e | e
  · have : (0 : Int) ∉ A.E := fun e => by have := h.pos 0 (.inr (.inl e)); omega
    simp [this]
  · simp [h.fe p e, e]
  · rw [if_pos e]
    obtain ⟨o, ho⟩ := (h.dom p).2 (.inr (.inl e))
    rw [ho]
    rcases h.way p o e ho with q | q | q
    · exact .inr (.inr (.inr ⟨q, e⟩))
    · exact .inr (.inl q)
    · exact .inr (.inr (.inl q))
  · have : p ∉ A.E := fun q => h.eo p q e
    simp [this, e]

theorem Inv.now_stay (h : Inv x A) {p : Int} (hp : A.ok p) : A.now (A.now p) = A.now p := by
  rcases h.now_in hp with ⟨e, rfl⟩ | e | e | ⟨e, _⟩
  · rw [e, e]
  · exact Hp.now_no (h.fe _ e)
  · exact Hp.now_no fun q => h.eo _ q e
  · rw [e, e]

/-! An object leaves the half that is emptied. -/

def Hp.left (A : Hp) (p q : Int) (o o' : Ob) (old : Bool) : Hp :=
  { A with
    ob := upd (upd A.ob p { o with way := q }) q { o' with way := q, noted := false, rs := o.rs, ss := o.ss }
    F := if old then A.F else A.F ++ [q]
    O := if old then A.O ++ [q] else A.O
    row := if old then A.row ++ [q] else A.row }

theorem Inv.left (h : Inv x A) {p q : Int} {o o' : Ob} {old : Bool} (hp : p ∈ A.E) (ho : A.ob p = some o) (hq : A.ob q = none) (q0 : 0 < q) (hx : q ≠ x) : Inv x (A.left p q o o' old) := by
  have nq : q ∉ A.F ∧ q ∉ A.E ∧ q ∉ A.O := by
    refine ⟨fun e => ?_, fun e => ?_, fun e => ?_⟩
    · obtain ⟨_, e⟩ := (h.dom q).2 (.inl e); rw [hq] at e; cases e
    · obtain ⟨_, e⟩ := (h.dom q).2 (.inr (.inl e)); rw [hq] at e; cases e
    · obtain ⟨_, e⟩ := (h.dom q).2 (.inr (.inr e)); rw [hq] at e; cases e
  have pq : p ≠ q := fun e => nq.2.1 (e ▸ hp)
  have no : o.noted = false := by
    cases e : o.noted
    · rfl
    · exact absurd (h.noted p o ho e).1 (h.eo p hp)
  have mF : ∀ r, r ∈ (A.left p q o o' old).F ↔ r ∈ A.F ∨ (old = false ∧ r = q) := fun r => by cases old <;> simp [Hp.left]
  have mO : ∀ r, r ∈ (A.left p q o o' old).O ↔ r ∈ A.O ∨ (old = true ∧ r = q) := fun r => by cases old <;> simp [Hp.left]
  have mR : ∀ r, r ∈ (A.left p q o o' old).row ↔ r ∈ A.row ∨ (old = true ∧ r = q) := fun r => by cases old <;> simp [Hp.left]
  have mE : (A.left p q o o' old).E = A.E := rfl
  have mX : (A.left p q o o' old).X = A.X := rfl
  have mY : (A.left p q o o' old).Y = A.Y := rfl
  have mh : (A.left p q o o' old).hs = A.hs := rfl
  have mk : (A.left p q o o' old).k = A.k := rfl
  have mT : (A.left p q o o' old).F.take A.k = A.F.take A.k := by
    have := h.kl
    cases old
    · show (A.F ++ [q]).take A.k = _
      rw [List.take_append_of_le_length this]
    · rfl
  -- what stands where
  have ob : ∀ u v, (A.left p q o o' old).ob u = some v → (u = q ∧ v = { o' with way := q, noted := false, rs := o.rs, ss := o.ss }) ∨ (u = p ∧ u ≠ q ∧ v = { o with way := q }) ∨ (u ≠ p ∧ u ≠ q ∧ A.ob u = some v) := fun u v e => by
    have e : upd (upd A.ob p { o with way := q }) q { o' with way := q, noted := false, rs := o.rs, ss := o.ss } u = some v := e
    unfold upd at e
    split at e
    · cases e; exact .inl ⟨‹_›, rfl⟩
    · split at e
      · cases e; exact .inr (.inl ⟨‹_›, ‹_›, rfl⟩)
      · exact .inr (.inr ⟨‹_›, ‹_›, e⟩)
  have ok : ∀ r, A.ok r → (A.left p q o o' old).ok r := fun r e => by
    unfold Hp.ok at e ⊢
    rw [mF, mO, mE]
    rcases e with e | e | e | e
    · exact .inl e
    · exact .inr (.inl (.inl e))
    · exact .inr (.inr (.inl e))
    · exact .inr (.inr (.inr (.inl e)))
  have rq : ∀ u v, A.ob u = some v → ∀ r ∈ v.rs, r ≠ q := fun u v e r hr => by
    rcases h.ref u v e r hr with e | e | e | e
    · omega
    · exact fun z => nq.1 (z ▸ e)
    · exact fun z => nq.2.1 (z ▸ e)
    · exact fun z => nq.2.2 (z ▸ e)
  refine
    { dom := fun u => ?_, pos := fun u hu => ?_, fe := fun u hu => ?_, fo := fun u hu => ?_, eo := fun u hu => ?_, nf := ?_, ne := h.ne, hs := fun u hu => ?_, ref := fun u v hv r hr => ?_
      old := fun u v hu hn hv r hr => ?_, noted := fun u v hv hn => ?_, self := fun u v hu hv => ?_, way := fun u v hu hv => ?_, cur := fun u hu v hv r hr => ?_, kl := ?_, row := fun u hu => ?_, xo := fun u hu => (mO u).2 (.inl (h.xo u hu)) }
  · rw [mF, mO, mE]
    show (∃ v, upd (upd A.ob p { o with way := q }) q { o' with way := q, noted := false, rs := o.rs, ss := o.ss } u = some v) ↔ _
    unfold upd
    by_cases e : u = q
    · subst e; cases old <;> simp
    · rw [if_neg e]
      by_cases e2 : u = p
      · subst e2; simp [hp]
      · rw [if_neg e2, h.dom u]; simp [e]
  · rw [mF, mO, mE] at hu
    rcases hu with (e | ⟨_, rfl⟩) | e | (e | ⟨_, rfl⟩)
    · exact h.pos u (.inl e)
    · exact q0
    · exact h.pos u (.inr (.inl e))
    · exact h.pos u (.inr (.inr e))
    · exact q0
  · rw [mE]
    rcases (mF u).1 hu with e | ⟨_, rfl⟩
    · exact h.fe u e
    · exact nq.2.1
  · rw [mO]
    rcases (mF u).1 hu with e | ⟨e1, rfl⟩
    · rintro (z | ⟨_, rfl⟩)
      · exact h.fo u e z
      · exact nq.1 e
    · rintro (z | ⟨z, _⟩)
      · exact nq.2.2 z
      · rw [e1] at z; cases z
  · rw [mO]
    rintro (z | ⟨_, rfl⟩)
    · exact h.eo u hu z
    · exact nq.2.1 hu
  · cases old
    · show (A.F ++ [q]).Nodup
      rw [List.nodup_append]
      exact ⟨h.nf, by simp, fun a ha b hb => by rw [List.mem_singleton.1 hb]; exact fun e => nq.1 (e ▸ ha)⟩
    · exact h.nf
  · exact ok u (h.hs u hu)
  · rcases ob u v hv with ⟨rfl, rfl⟩ | ⟨rfl, _, rfl⟩ | ⟨_, _, e⟩
    · exact ok r (h.ref p o ho r hr)
    · exact ok r (h.ref u o ho r hr)
    · exact ok r (h.ref u v e r hr)
  · rcases ob u v hv with ⟨rfl, rfl⟩ | ⟨rfl, _, rfl⟩ | ⟨n1, n2, e⟩
    · have : old = true := by
        rcases (mO u).1 hu with z | ⟨z, _⟩
        · exact absurd z nq.2.2
        · exact z
      exact ⟨fun _ => .inr ((mR u).2 (.inr ⟨this, rfl⟩)), fun _ => .inl ((mR u).2 (.inr ⟨this, rfl⟩))⟩
    · rcases (mO u).1 hu with z | ⟨_, z⟩
      · exact absurd z (h.eo u hp)
      · exact absurd z pq
    · have hu : u ∈ A.O := ((mO u).1 hu).resolve_right fun z => n2 z.2
      have z := h.old u v hu hn e r hr
      have hr := rq u v e r hr
      refine ⟨fun y => ?_, fun y => ?_⟩
      · rcases (mF r).1 y with y | ⟨_, y⟩
        · exact (z.1 y).imp id fun z => (mR u).2 (.inl z)
        · exact absurd y hr
      · exact (z.2 y).imp (fun z => (mR u).2 (.inl z)) id
  · rcases ob u v hv with ⟨rfl, rfl⟩ | ⟨rfl, _, rfl⟩ | ⟨_, _, e⟩
    · cases hn
    · rw [no] at hn; cases hn
    · have := h.noted u v e hn
      exact ⟨(mO u).2 (.inl this.1), this.2⟩
  · rcases ob u v hv with ⟨rfl, rfl⟩ | ⟨rfl, n, rfl⟩ | ⟨_, n2, e⟩
    · rfl
    · rcases (mF u).1 hu with z | ⟨_, z⟩
      · exact absurd hp (h.fe u z)
      · exact absurd z n
    · exact h.self u v (((mF u).1 hu).resolve_right fun z => n2 z.2) e
  · rw [mF, mO]
    rcases ob u v hv with ⟨rfl, rfl⟩ | ⟨rfl, _, rfl⟩ | ⟨_, _, e⟩
    · exact .inl rfl
    · cases old
      · exact .inr (.inl (.inr ⟨rfl, rfl⟩))
      · exact .inr (.inr (.inr ⟨rfl, rfl⟩))
    · rcases h.way u v hu e with z | z | z
      · exact .inl z
      · exact .inr (.inl (.inl z))
      · exact .inr (.inr (.inl z))
  · rw [mk, mT] at hu
    have hF := List.mem_of_mem_take hu
    rcases ob u v hv with ⟨rfl, rfl⟩ | ⟨rfl, _, rfl⟩ | ⟨_, _, e⟩
    · exact absurd hF nq.1
    · exact absurd hp (h.fe u hF)
    · exact h.cur u hu v e r hr
  · rw [mk]
    have := h.kl
    cases old
    · show A.k ≤ (A.F ++ [q]).length
      rw [List.length_append]; omega
    · exact this
  · rw [mO]
    rcases (mR u).1 hu with e | e
    · exact .inl (h.row u e)
    · exact .inr e
end
end Gc
end Go.Proofs.YthmhehehomieiaaGreat

/- What else happens to a heap without words: an object is written to, noted, passed by the cursor, made; a cycle begins, and ends. Of lists alone. -/
namespace Go.Proofs.YthmhehehomieiaaGreat
namespace Gc
variable {x : Int} {A : Hp}

def Hp.put (A : Hp) (p : Int) (o : Ob) : Hp := { A with ob := upd A.ob p o }

theorem Inv.put (h : Inv x A) {p : Int} {o o' : Ob} (ho : A.ob p = some o) (hw : o'.way = o.way) (hr : ∀ r ∈ o'.rs, A.ok r)
    (hold : p ∈ A.O → p ≠ x → ∀ r ∈ o'.rs, (r ∈ A.F → o'.noted = true ∨ p ∈ A.row) ∧ (r ∈ A.E → p ∈ A.row ∨ (o'.noted = true ∧ A.X p)))
    (hn : o'.noted = true → p ∈ A.O ∧ (A.X p ∨ A.Y p)) (hc : p ∈ A.F.take A.k → ∀ r ∈ o'.rs, r ∉ A.E) : Inv x (A.put p o') := by
  have ob : ∀ u v, (A.put p o').ob u = some v → (u = p ∧ v = o') ∨ (u ≠ p ∧ A.ob u = some v) := fun u v e => by
    have e : upd A.ob p o' u = some v := e
    unfold upd at e
    split at e
    · cases e; exact .inl ⟨‹_›, rfl⟩
    · exact .inr ⟨‹_›, e⟩
  exact
    { dom := fun u => by
        show (∃ v, upd A.ob p o' u = some v) ↔ _
        unfold upd
        by_cases e : u = p
        · subst e
          rw [if_pos rfl]
          exact ⟨fun _ => (h.dom u).1 ⟨o, ho⟩, fun _ => ⟨o', rfl⟩⟩
        · rw [if_neg e]; exact h.dom u
      pos := h.pos, fe := h.fe, fo := h.fo, eo := h.eo, nf := h.nf, ne := h.ne, hs := h.hs, kl := h.kl, row := h.row, xo := h.xo
      ref := fun u v e r q => by
        rcases ob u v e with ⟨rfl, rfl⟩ | ⟨_, e⟩
        · exact hr r q
        · exact h.ref u v e r q
      old := fun u v hu hx e r q => by
        rcases ob u v e with ⟨rfl, rfl⟩ | ⟨_, e⟩
        · exact hold hu hx r q
        · exact h.old u v hu hx e r q
      noted := fun u v e q => by
        rcases ob u v e with ⟨rfl, rfl⟩ | ⟨_, e⟩
        · exact hn q
        · exact h.noted u v e q
      self := fun u v hu e => by
        rcases ob u v e with ⟨rfl, rfl⟩ | ⟨_, e⟩
        · rw [hw]; exact h.self u o hu ho
        · exact h.self u v hu e
      way := fun u v hu e => by
        rcases ob u v e with ⟨rfl, rfl⟩ | ⟨_, e⟩
        · rw [hw]; exact h.way u o hu ho
        · exact h.way u v hu e
      cur := fun u hu v e r q => by
        rcases ob u v e with ⟨rfl, rfl⟩ | ⟨_, e⟩
        · exact hc hu r q
        · exact h.cur u hu v e r q }

/-- More is to be looked at later. -/
theorem Inv.more (h : Inv x A) {Y : Int → Prop} (hy : ∀ p, A.Y p → Y p) (hO : ∀ p, Y p → p ∈ A.O) : Inv x { A with Y := Y } :=
  { h with xo := fun p e => e.elim (fun z => h.xo p (.inl z)) (hO p), noted := fun p o ho hn => ⟨(h.noted p o ho hn).1, (h.noted p o ho hn).2.imp id (hy p)⟩ }

/-- Something has been looked at. -/
theorem Inv.less (h : Inv x A) {X : Int → Prop} (hXX : ∀ p, X p → A.X p) (hX : ∀ p o, p ∈ A.O → A.ob p = some o → A.X p → ¬ X p → (o.noted = true → A.Y p) ∧ ∀ r ∈ o.rs, r ∈ A.E → p ∈ A.row) : Inv x { A with X := X, D := fun _ => False } :=
  { h with
    xo := fun p e => h.xo p (e.imp (hXX p) id)
    old := fun p o hp hx ho r hr => by
      refine ⟨(h.old p o hp hx ho r hr).1, fun e => ?_⟩
      rcases (h.old p o hp hx ho r hr).2 e with q | ⟨q1, q2⟩
      · exact .inl q
      · by_cases z : X p
        · exact .inr ⟨q1, z⟩
        · exact .inl ((hX p o hp ho q2 z).2 r hr e)
    noted := fun p o ho hn => by
      obtain ⟨hp, q⟩ := h.noted p o ho hn
      refine ⟨hp, ?_⟩
      rcases q with q | q
      · by_cases z : X p
        · exact .inl z
        · exact .inr ((hX p o hp ho q z).1 hn)
      · exact .inr q }

/-- The handles hold something else. -/
theorem Inv.hand (h : Inv x A) {hs : List Int} (hh : ∀ p ∈ hs, A.ok p) : Inv x { A with hs := hs } := { h with hs := hh }

/-- The first one of the row is taken out. -/
theorem Inv.pop (h : Inv 0 A) {p : Int} {row : List Int} (e : A.row = p :: row) : Inv p { A with row := row } :=
  { h with
    old := fun q o hq hx ho r hr => by
      have z := h.old q o hq (by have := h.pos q (.inr (.inr hq)); omega) ho r hr
      rw [e, List.mem_cons] at z
      exact ⟨fun y => (z.1 y).imp id fun y => y.resolve_left hx, fun y => (z.2 y).imp (fun y => y.resolve_left hx) id⟩
    row := fun q hq => h.row q (by rw [e]; exact List.mem_cons_of_mem _ hq) }

/-- The cursor goes on. -/
theorem Inv.step (h : Inv x A) {p : Int} (hp : A.F[A.k]? = some p) (hr : ∀ o, A.ob p = some o → ∀ r ∈ o.rs, r ∉ A.E) : Inv x { A with k := A.k + 1 } :=
  { h with
    cur := fun q hq o ho r => by
      have hq : q ∈ A.F.take (A.k + 1) := hq
      rw [List.take_add_one, List.mem_append, hp] at hq
      rcases hq with e | e
      · exact h.cur q e o ho r
      · obtain rfl : q = p := by simpa using e
        exact hr o ho r
    kl := by
      have := (List.getElem?_eq_some_iff.1 hp).1
      exact this }

/-- A cycle begins. -/
def Hp.start (A : Hp) : Hp := { A with F := [], E := A.F, row := [], k := 0, X := A.Y, Y := fun _ => False }

theorem Inv.start (h : Inv 0 A) (hE : A.E = []) (hX : ∀ p, ¬ A.X p) (hR : A.row = []) : Inv 0 A.start := by
  have ok : ∀ r, A.ok r → A.start.ok r := fun r e => by
    unfold Hp.ok at e ⊢
    rw [hE] at e
    rcases e with e | e | e | e
    · exact .inl e
    · exact .inr (.inr (.inl e))
    · cases e
    · exact .inr (.inr (.inr e))
  exact
    { dom := fun p => by
        show (∃ o, A.ob p = some o) ↔ p ∈ [] ∨ p ∈ A.F ∨ p ∈ A.O
        rw [h.dom p, hE]; simp
      pos := fun p hp => h.pos p (by rcases hp with e | e | e; · cases e
                                     · exact .inl e
                                     · exact .inr (.inr e))
      fe := fun p hp => by cases hp
      fo := fun p hp => by cases hp
      eo := fun p hp => h.fo p hp
      nf := List.nodup_nil
      ne := h.nf
      hs := fun p hp => ok p (h.hs p hp)
      ref := fun p o ho r hr => ok r (h.ref p o ho r hr)
      old := fun p o hp hx ho r hr => by
        refine ⟨fun e => (by cases e), fun e => ?_⟩
        rcases (h.old p o hp hx ho r hr).1 e with z | z
        · refine .inr ⟨z, ?_⟩
          exact ((h.noted p o ho z).2).resolve_left (hX p)
        · rw [hR] at z; cases z
      noted := fun p o ho hn => ⟨(h.noted p o ho hn).1, .inl (((h.noted p o ho hn).2).resolve_left (hX p))⟩
      self := fun p o hp => by cases hp
      way := fun p o hp ho => .inl (h.self p o hp ho)
      cur := fun p hp => by rw [show A.start.F = [] from rfl] at hp; simp at hp
      kl := Nat.zero_le _
      row := fun p hp => by cases hp
      xo := fun p e => h.xo p (.inr (e.resolve_right fun z => z)) }

/-- A cycle ends. -/
def Hp.stop (A : Hp) : Hp := { A with ob := fun p => if p ∈ A.E then none else A.ob p, E := [] }

theorem Inv.stop (h : Inv 0 A) (hk : A.k = A.F.length) (hX : ∀ p, ¬ A.X p) (hR : A.row = []) (hH : ∀ p ∈ A.hs, p ∉ A.E) :
    Inv 0 A.stop ∧ (∀ p o, p ∉ A.E → A.ob p = some o → ∀ r ∈ o.rs, r ∉ A.E) := by
  have far : ∀ p o, p ∉ A.E → A.ob p = some o → ∀ r ∈ o.rs, r ∉ A.E := fun p o hp ho r hr => by
    rcases (h.dom p).1 ⟨o, ho⟩ with e | e | e
    · exact h.cur p (by rw [hk, List.take_length]; exact e) o ho r hr
    · exact absurd e hp
    · intro z
      rcases (h.old p o e (by have := h.pos p (.inr (.inr e)); omega) ho r hr).2 z with y | ⟨_, y⟩
      · rw [hR] at y; cases y
      · exact hX p y
  have ob : ∀ p o, A.stop.ob p = some o → p ∉ A.E ∧ A.ob p = some o := fun p o e => by
    have e : (if p ∈ A.E then none else A.ob p) = some o := e
    split at e
    · cases e
    · exact ⟨‹_›, e⟩
  have ok : ∀ r, A.ok r → r ∉ A.E → A.stop.ok r := fun r e n => by
    unfold Hp.ok at e ⊢
    rcases e with e | e | e | e
    · exact .inl e
    · exact .inr (.inl e)
    · exact absurd e n
    · exact .inr (.inr (.inr e))
  refine ⟨?_, far⟩
  exact
    { dom := fun p => by
        show (∃ o, (if p ∈ A.E then none else A.ob p) = some o) ↔ p ∈ A.F ∨ p ∈ [] ∨ p ∈ A.O
        by_cases e : p ∈ A.E
        · rw [if_pos e]
          refine ⟨fun ⟨_, e⟩ => (by cases e), fun z => ?_⟩
          rcases z with z | z | z
          · exact absurd e (h.fe p z)
          · cases z
          · exact absurd z (h.eo p e)
        · rw [if_neg e, h.dom p]; simp [e]
      pos := fun p hp => h.pos p (by rcases hp with e | e | e; · exact .inl e
                                     · cases e
                                     · exact .inr (.inr e))
      fe := fun p _ => by simp [Hp.stop]
      fo := h.fo
      eo := fun p hp => by cases hp
      nf := h.nf
      ne := List.nodup_nil
      hs := fun p hp => ok p (h.hs p hp) (hH p hp)
      ref := fun p o ho r hr => ok r (h.ref p o (ob p o ho).2 r hr) (far p o (ob p o ho).1 (ob p o ho).2 r hr)
      old := fun p o hp hx ho r hr => ⟨(h.old p o hp hx (ob p o ho).2 r hr).1, fun e => by cases e⟩
      noted := fun p o ho => h.noted p o (ob p o ho).2
      self := fun p o hp ho => h.self p o hp (ob p o ho).2
      way := fun p o hp => by cases hp
      cur := fun p hp o ho r hr => by simp [Hp.stop]
      kl := h.kl
      row := h.row
      xo := h.xo }

/-- Something new. -/
def Hp.make (A : Hp) (q : Int) (o : Ob) : Hp := { A with ob := upd A.ob q { o with way := q, noted := false }, F := A.F ++ [q] }

theorem Inv.make (h : Inv x A) {q : Int} {o : Ob} (hq : A.ob q = none) (q0 : 0 < q) (hr : ∀ r ∈ o.rs, r = 0) : Inv x (A.make q o) := by
  have nq : q ∉ A.F ∧ q ∉ A.E ∧ q ∉ A.O := by
    refine ⟨fun e => ?_, fun e => ?_, fun e => ?_⟩
    · obtain ⟨_, e⟩ := (h.dom q).2 (.inl e); rw [hq] at e; cases e
    · obtain ⟨_, e⟩ := (h.dom q).2 (.inr (.inl e)); rw [hq] at e; cases e
    · obtain ⟨_, e⟩ := (h.dom q).2 (.inr (.inr e)); rw [hq] at e; cases e
  have z0 : ∀ B : Hp, B.ok 0 := fun B => .inl rfl
  have nz : (0 : Int) ∉ A.F ∧ (0 : Int) ∉ A.E := ⟨fun e => by have := h.pos 0 (.inl e); omega, fun e => by have := h.pos 0 (.inr (.inl e)); omega⟩
  have mF : ∀ r, r ∈ (A.make q o).F ↔ r ∈ A.F ∨ r = q := fun r => by simp [Hp.make]
  have mT : (A.make q o).F.take A.k = A.F.take A.k := by
    show (A.F ++ [q]).take A.k = _
    rw [List.take_append_of_le_length h.kl]
  have ob : ∀ u v, (A.make q o).ob u = some v → (u = q ∧ v = { o with way := q, noted := false }) ∨ (u ≠ q ∧ A.ob u = some v) := fun u v e => by
    have e : upd A.ob q { o with way := q, noted := false } u = some v := e
    unfold upd at e
    split at e
    · cases e; exact .inl ⟨‹_›, rfl⟩
    · exact .inr ⟨‹_›, e⟩
  have ok : ∀ r, A.ok r → (A.make q o).ok r := fun r e => by
    unfold Hp.ok at e ⊢
    rw [mF]
    rcases e with e | e | e | e
    · exact .inl e
    · exact .inr (.inl (.inl e))
    · exact .inr (.inr (.inl e))
    · exact .inr (.inr (.inr e))
  have rq : ∀ r, A.ok r → r ≠ q := fun r e => by
    rcases e with e | e | e | e
    · omega
    · exact fun z => nq.1 (z ▸ e)
    · exact fun z => nq.2.1 (z ▸ e)
    · exact fun z => nq.2.2 (z ▸ e)
  exact
    { dom := fun u => by
        rw [mF]
        show (∃ v, upd A.ob q { o with way := q, noted := false } u = some v) ↔ (u ∈ A.F ∨ u = q) ∨ u ∈ A.E ∨ u ∈ A.O
        unfold upd
        by_cases e : u = q
        · subst e; simp
        · rw [if_neg e, h.dom u]; simp [e]
      pos := fun u hu => by
        rw [mF] at hu
        rcases hu with (e | rfl) | e | e
        · exact h.pos u (.inl e)
        · exact q0
        · exact h.pos u (.inr (.inl e))
        · exact h.pos u (.inr (.inr e))
      fe := fun u hu => by
        rcases (mF u).1 hu with e | rfl
        · exact h.fe u e
        · exact nq.2.1
      fo := fun u hu => by
        rcases (mF u).1 hu with e | rfl
        · exact h.fo u e
        · exact nq.2.2
      eo := h.eo
      ne := h.ne
      nf := by
        show (A.F ++ [q]).Nodup
        rw [List.nodup_append]
        exact ⟨h.nf, by simp, fun a ha b hb => by rw [List.mem_singleton.1 hb]; exact fun e => nq.1 (e ▸ ha)⟩
      hs := fun p hp => ok p (h.hs p hp)
      ref := fun u v e r q => by
        rcases ob u v e with ⟨rfl, rfl⟩ | ⟨_, e⟩
        · rw [hr r q]; exact z0 _
        · exact ok r (h.ref u v e r q)
      old := fun u v hu hx e r z => by
        rcases ob u v e with ⟨rfl, rfl⟩ | ⟨_, e⟩
        · exact absurd hu nq.2.2
        · refine ⟨fun y => ?_, (h.old u v hu hx e r z).2⟩
          rcases (mF r).1 y with y | y
          · exact (h.old u v hu hx e r z).1 y
          · exact absurd y (rq r (h.ref u v e r z))
      noted := fun u v e hn => by
        rcases ob u v e with ⟨rfl, rfl⟩ | ⟨_, e⟩
        · cases hn
        · exact h.noted u v e hn
      self := fun u v hu e => by
        rcases ob u v e with ⟨rfl, rfl⟩ | ⟨n, e⟩
        · rfl
        · exact h.self u v (((mF u).1 hu).resolve_right n) e
      way := fun u v hu e => by
        rw [mF]
        rcases ob u v e with ⟨rfl, rfl⟩ | ⟨n, e⟩
        · exact .inl rfl
        · rcases h.way u v hu e with z | z | z
          · exact .inl z
          · exact .inr (.inl (.inl z))
          · exact .inr (.inr z)
      cur := fun u hu v e r z => by
        rw [show (A.make q o).k = A.k from rfl, mT] at hu
        rcases ob u v e with ⟨rfl, rfl⟩ | ⟨n, e⟩
        · exact absurd (List.mem_of_mem_take hu) nq.1
        · exact h.cur u hu v e r z
      kl := by
        have := h.kl
        show A.k ≤ (A.F ++ [q]).length
        rw [List.length_append]; omega
      row := h.row
      xo := h.xo }
end Gc
end Go.Proofs.YthmhehehomieiaaGreat

/- What a heap without words holds, as a graph: a cycle's bits keep it. Of lists alone. -/
namespace Go.Proofs.YthmhehehomieiaaGreat
namespace Gc

/-- A graph: what a node refers to, and its scalars; what handles hold. -/
structure Gph where
  nd : Int → Option (List Int × List Int)
  hs : List Int

inductive Gph.Held (G : Gph) : Int → Prop
  | root {h : Int} : h ∈ G.hs → h ≠ 0 → Gph.Held G h
  | ref {n r : Int} {d : List Int × List Int} : Gph.Held G n → G.nd n = some d → r ∈ d.1 → r ≠ 0 → Gph.Held G r

structure Rep (A : Hp) (G : Gph) (f : Int → Int) : Prop where
  z : f 0 = 0
  hs : A.hs.map A.now = G.hs.map f
  node : ∀ n, G.Held n → ∃ d o, G.nd n = some d ∧ A.ob (f n) = some o ∧ A.now (f n) = f n ∧ o.rs.map A.now = d.1.map f ∧ o.ss = d.2
  inj : ∀ m n, G.Held m → G.Held n → f m = f n → m = n

section
variable {x : Int} {A : Hp} {G : Gph} {f : Int → Int}

theorem Inv.now_ok (h : Inv x A) {p : Int} (hp : A.ok p) : A.ok (A.now p) := by
  rcases h.now_in hp with ⟨e, _⟩ | e | e | ⟨e, q⟩
  · exact .inl e
  · exact .inr (.inl e)
  · exact .inr (.inr (.inr e))
  · rw [e]; exact .inr (.inr (.inl q))
theorem Inv.now_zero (h : Inv x A) {p : Int} (hp : A.ok p) (e : A.now p = 0) : p = 0 := by
  rcases h.now_in hp with ⟨_, e⟩ | q | q | ⟨q, z⟩
  · exact e
  · have := h.pos _ (.inl q); omega
  · have := h.pos _ (.inr (.inr q)); omega
  · omega
theorem Inv.ok_ob (h : Inv x A) {p : Int} (hp : A.ok p) (n : p ≠ 0) : ∃ o, A.ob p = some o := (h.dom p).2 (hp.resolve_left n)
theorem Inv.ob_ok (h : Inv x A) {p : Int} {o : Ob} (ho : A.ob p = some o) : A.ok p := .inr ((h.dom p).1 ⟨o, ho⟩)
theorem Inv.ob_pos (h : Inv x A) {p : Int} {o : Ob} (ho : A.ob p = some o) : 0 < p := h.pos p ((h.dom p).1 ⟨o, ho⟩)

/-- The graph that a heap is. -/
def Hp.gph (A : Hp) : Gph := ⟨fun p => (A.ob p).map fun o => (o.rs.map A.now, o.ss), A.hs.map A.now⟩

theorem Inv.own (h : Inv x A) : Rep A A.gph id := by
  have held : ∀ n, A.gph.Held n → A.ok n ∧ n ≠ 0 ∧ A.now n = n := fun n hn => by
    induction hn with
    | root hh n0 =>
      obtain ⟨p, hp, rfl⟩ := List.mem_map.1 hh
      exact ⟨h.now_ok (h.hs p hp), n0, h.now_stay (h.hs p hp)⟩
    | ref _ hd hr r0 ih =>
      have hd : (A.ob _).map (fun o : Ob => (o.rs.map A.now, o.ss)) = some _ := hd
      obtain ⟨o, ho, rfl⟩ := Option.map_eq_some_iff.1 hd
      obtain ⟨p, hp, rfl⟩ := List.mem_map.1 hr
      exact ⟨h.now_ok (h.ref _ o ho p hp), r0, h.now_stay (h.ref _ o ho p hp)⟩
  refine ⟨rfl, by simp [Hp.gph], fun n hn => ?_, fun _ _ _ _ e => e⟩
  obtain ⟨h1, h2, h3⟩ := held n hn
  obtain ⟨o, ho⟩ := h.ok_ob h1 h2
  exact ⟨_, o, by show (A.ob n).map _ = _; rw [ho]; rfl, ho, h3, by simp, rfl⟩

/-- What is held stands where it is now. -/
theorem Rep.at_ (r : Rep A G f) {n : Int} (hn : G.Held n) : A.now (f n) = f n := let ⟨_, _, _, _, e, _⟩ := r.node n hn; e

/-- An object of the half that is emptied has left it. -/
theorem Rep.left (h : Inv x A) (r : Rep A G f) {p q : Int} {o o' : Ob} {old : Bool} (hp : p ∈ A.E) (ho : A.ob p = some o) (hw : o.way = p) (hq : A.ob q = none) (q0 : 0 < q) :
    Rep (A.left p q o o' old) G (fun n => if f n = p then q else f n) := by
  have p0 : p ≠ 0 := by have := h.ob_pos ho; omega
  have nq : ∀ y, A.ok y → y ≠ q := fun y hy e => by
    subst e
    obtain ⟨_, e⟩ := h.ok_ob hy (by omega)
    rw [hq] at e; cases e
  have pq : p ≠ q := nq p (h.ob_ok ho)
  have qE : q ∉ A.E := fun e => nq q (.inr (.inr (.inl e))) rfl
  have mE : (A.left p q o o' old).E = A.E := rfl
  have mob : ∀ y, (A.left p q o o' old).ob y = upd (upd A.ob p { o with way := q }) q { o' with way := q, noted := false, rs := o.rs, ss := o.ss } y := fun _ => rfl
  have now : ∀ y, A.ok y → (A.left p q o o' old).now y = if A.now y = p then q else A.now y := fun y hy => by
    by_cases e : y ∈ A.E
    · obtain ⟨v, hv⟩ := h.ok_ob hy (by have := h.pos y (.inr (.inl e)); omega)
      rw [Hp.now_yes e hv]
      by_cases e2 : y = p
      · subst e2
        rw [ho] at hv; cases hv
        rw [Hp.now_yes (o := { o with way := q }) (by exact e) (by rw [mob, upd_ne pq, upd_self]), if_pos hw]
      · rw [Hp.now_yes (o := v) (by exact e) (by rw [mob, upd_ne (nq y hy), upd_ne e2]; exact hv)]
        rw [if_neg]
        intro z
        rcases h.way y v e hv with a | a | a
        · exact e2 (a.symm.trans z)
        · exact h.fe _ (z ▸ a) hp
        · exact h.eo p hp (z ▸ a)
    · rw [Hp.now_no e, Hp.now_no (by exact e), if_neg fun z : y = p => e (z ▸ hp)]
  have nowq : (A.left p q o o' old).now q = q := Hp.now_no qE
  refine ⟨by show (if f 0 = p then q else f 0) = 0; rw [r.z, if_neg (Ne.symm p0)], ?_, fun n hn => ?_, fun m n hm hn e => ?_⟩
  · have e := congrArg (List.map fun y => if y = p then q else y) r.hs
    rw [List.map_map, List.map_map] at e
    refine Eq.trans (List.map_congr_left fun y hy => ?_) e
    exact now y (h.hs y hy)
  · obtain ⟨d, v, h1, h2, h3, h4, h5⟩ := r.node n hn
    have e4 := congrArg (List.map fun y => if y = p then q else y) h4
    rw [List.map_map, List.map_map] at e4
    have e4 : v.rs.map (A.left p q o o' old).now = d.1.map fun n => if f n = p then q else f n := Eq.trans (List.map_congr_left fun y hy => now y (h.ref _ v h2 y hy)) e4
    by_cases e : f n = p
    · simp only [if_pos e]
      rw [e, ho] at h2; cases h2
      exact ⟨d, { o' with way := q, noted := false, rs := o.rs, ss := o.ss }, h1, by rw [mob, upd_self], nowq, e4, h5⟩
    · simp only [if_neg e]
      refine ⟨d, v, h1, by rw [mob, upd_ne (nq _ (h.ob_ok h2)), upd_ne e]; exact h2, ?_, e4, h5⟩
      rw [now _ (h.ob_ok h2), h3, if_neg e]
  · have hm' : f m ≠ q := by obtain ⟨_, _, _, h2, _⟩ := r.node m hm; exact nq _ (h.ob_ok h2)
    have hn' : f n ≠ q := by obtain ⟨_, _, _, h2, _⟩ := r.node n hn; exact nq _ (h.ob_ok h2)
    split at e <;> split at e
    · exact r.inj m n hm hn (by omega)
    · exact absurd e.symm hn'
    · exact absurd e hm'
    · exact r.inj m n hm hn e

/-- An object is written to, but refers to the same, and holds the same. -/
theorem Rep.put (r : Rep A G f) {p : Int} {o o' : Ob} (ho : A.ob p = some o) (hw : o'.way = o.way) (hr : o'.rs.map A.now = o.rs.map A.now) (hs : o'.ss = o.ss) : Rep (A.put p o') G f := by
  have mob : ∀ y, (A.put p o').ob y = upd A.ob p o' y := fun _ => rfl
  have now : ∀ y, (A.put p o').now y = A.now y := fun y => by
    by_cases e : y ∈ A.E
    · by_cases e2 : y = p
      · subst e2
        rw [Hp.now_yes e ho, Hp.now_yes (o := o') (by exact e) (by rw [mob, upd_self]), hw]
      · unfold Hp.now
        rw [if_pos e, if_pos (show y ∈ (A.put p o').E from e), mob, upd_ne e2]
    · rw [Hp.now_no e, Hp.now_no (by exact e)]
  have now' : (A.put p o').now = A.now := funext now
  refine ⟨r.z, by rw [now']; exact r.hs, fun n hn => ?_, r.inj⟩
  obtain ⟨d, v, h1, h2, h3, h4, h5⟩ := r.node n hn
  rw [now']
  by_cases e : f n = p
  · rw [e, ho] at h2; cases h2
    exact ⟨d, o', h1, by rw [mob, e, upd_self], h3, by rw [hr]; exact h4, by rw [hs]; exact h5⟩
  · exact ⟨d, v, h1, by rw [mob, upd_ne e]; exact h2, h3, h4, h5⟩

/-- What is told of the heap beside its objects may turn. -/
theorem Rep.side (r : Rep A G f) {B : Hp} (h1 : B.ob = A.ob) (h2 : B.E = A.E) (h3 : B.hs = A.hs) : Rep B G f := by
  have now : B.now = A.now := funext fun y => by unfold Hp.now; rw [h1, h2]
  exact ⟨r.z, by rw [now, h3]; exact r.hs, fun n hn => by rw [now, h1]; exact r.node n hn, r.inj⟩

/-- Handles hold where their objects are now. -/
theorem Rep.hand (r : Rep A G f) {hs : List Int} (e : hs.map A.now = A.hs.map A.now) : Rep { A with hs := hs } G f := by
  have now : Hp.now { A with hs := hs } = A.now := funext fun y => rfl
  exact ⟨r.z, by rw [now]; exact e.trans r.hs, fun n hn => by rw [now]; exact r.node n hn, r.inj⟩

theorem Rep.start (h : Inv 0 A) (r : Rep A G f) (hE : A.E = []) : Rep A.start G f := by
  have now0 : ∀ y, A.now y = y := fun y => Hp.now_no (by rw [hE]; simp)
  have now : ∀ y, A.start.now y = y := fun y => by
    by_cases e : y ∈ A.F
    · obtain ⟨o, ho⟩ := (h.dom y).2 (.inl e)
      rw [Hp.now_yes (A := A.start) (o := o) e ho]
      exact h.self y o e ho
    · exact Hp.now_no (A := A.start) e
  have e : A.start.now = A.now := funext fun y => (now y).trans (now0 y).symm
  exact ⟨r.z, by rw [e]; exact r.hs, fun n hn => by rw [e]; exact r.node n hn, r.inj⟩

theorem Rep.stop (r : Rep A G f) (hH : ∀ p ∈ A.hs, p ∉ A.E) (far : ∀ p o, p ∉ A.E → A.ob p = some o → ∀ r ∈ o.rs, r ∉ A.E) : Rep A.stop G f := by
  have now : ∀ y, A.stop.now y = y := fun y => Hp.now_no (A := A.stop) (by simp [Hp.stop])
  have ids : ∀ l : List Int, (∀ y ∈ l, y ∉ A.E) → l.map A.stop.now = l.map A.now := fun l hl => List.map_congr_left fun y hy => (now y).trans (Hp.now_no (hl y hy)).symm
  have out : ∀ n, G.Held n → f n ∉ A.E := fun n hn => by
    induction hn with
    | root hh n0 =>
      have := List.mem_map_of_mem (f := f) hh
      rw [← r.hs] at this
      obtain ⟨p, hp, e⟩ := List.mem_map.1 this
      rw [← e, Hp.now_no (hH p hp)]
      exact hH p hp
    | ref hn hd hr r0 ih =>
      obtain ⟨d', o, h1, h2, h3, h4, h5⟩ := r.node _ hn
      rw [hd] at h1; cases h1
      have := List.mem_map_of_mem (f := f) hr
      rw [← h4] at this
      obtain ⟨p, hp, e⟩ := List.mem_map.1 this
      have z := far _ o ih h2 p hp
      rw [← e, Hp.now_no z]
      exact z
  refine ⟨r.z, (ids _ hH).trans r.hs, fun n hn => ?_, r.inj⟩
  obtain ⟨d, o, h1, h2, h3, h4, h5⟩ := r.node n hn
  exact ⟨d, o, h1, by show (if f n ∈ A.E then none else A.ob (f n)) = _; rw [if_neg (out n hn)]; exact h2, now _, (ids _ (far _ o (out n hn) h2)).trans h4, h5⟩
end
end Gc
end Go.Proofs.YthmhehehomieiaaGreat

/- What is held, told as numbers, hangs on the graph alone. Of lists alone. -/
namespace Go.Proofs.YthmhehehomieiaaGreat
namespace Gc

/-- Where something stands in a list. -/
def ix (a : Int) : List Int → Option Nat
  | [] => none
  | b :: l => if b = a then some 0 else (ix a l).map (· + 1)

theorem ix_none {a : Int} {l : List Int} : ix a l = none ↔ a ∉ l := by
  induction l with
  | nil => simp [ix]
  | cons b l ih =>
    unfold ix
    by_cases e : b = a
    · simp [e]
    · rw [if_neg e, Option.map_eq_none_iff, ih]
      simp [Ne.symm e]
theorem ix_some {a : Int} {l : List Int} {i : Nat} (h : ix a l = some i) : l[i]? = some a ∧ ∀ j < i, l[j]? ≠ some a := by
  induction l generalizing i with
  | nil => simp [ix] at h
  | cons b l ih =>
    unfold ix at h
    by_cases e : b = a
    · rw [if_pos e] at h
      cases h
      exact ⟨by simp [e], fun j hj => absurd hj (Nat.not_lt_zero j)⟩
    · rw [if_neg e] at h
      obtain ⟨k, hk, rfl⟩ := Option.map_eq_some_iff.1 h
      obtain ⟨h1, h2⟩ := ih hk
      refine ⟨by simpa using h1, fun j hj => ?_⟩
      cases j with
      | zero => simpa using e
      | succ j => simpa using h2 j (by omega)

/-- The number of what a reference tells, and what is met then. -/
def meet (now : Int → Int) (met : List Int) (y : Int) : List Int × Int :=
  if now y = 0 then (met, 0) else match ix (now y) met with
    | some i => (met, i + 1)
    | none => (met ++ [now y], met.length + 1)

def meets (now : Int → Int) : List Int → List Int → List Int × List Int
  | met, [] => (met, [])
  | met, y :: ys => ((meets now (meet now met y).1 ys).1, (meet now met y).2 :: (meets now (meet now met y).1 ys).2)

/-- What is told of an object. -/
def toldOb (now cv : Int → Int) (met : List Int) (d : List Int × List Int) : List Int × List Int :=
  ((meets now met d.1).1, ((d.1.length + d.2.length : Nat) : Int) :: (d.1.length : Int) :: ((meets now met d.1).2 ++ d.2.map cv))

def told (now cv : Int → Int) (dat : Int → List Int × List Int) : Nat → Nat → List Int → List Int → List Int
  | 0, _, _, out => out
  | n + 1, i, met, out => match met[i]? with
    | none => out
    | some p => told now cv dat n (i + 1) (toldOb now cv met (dat p)).1 (out ++ (toldOb now cv met (dat p)).2)

/-- All of it. -/
def shown (now cv : Int → Int) (dat : Int → List Int × List Int) (n : Nat) (hs : List Int) : List Int :=
  told now cv dat n 0 (meets now [] hs).1 (meets now [] hs).2

def Hp.dat (A : Hp) (p : Int) : List Int × List Int := match A.ob p with | some o => (o.rs, o.ss) | none => ([], [])
def Gph.dat (G : Gph) (n : Int) : List Int × List Int := (G.nd n).getD ([], [])

section
variable {x : Int} {A : Hp} {G : Gph} {f : Int → Int} {cv : Int → Int}

theorem Rep.pos (h : Inv x A) (r : Rep A G f) {n : Int} (hn : G.Held n) : f n ≠ 0 := by
  obtain ⟨d, o, _, h2, _⟩ := r.node n hn
  have := h.ob_pos h2
  omega

theorem ix_map (f : Int → Int) {a : Int} {ms : List Int} (inj : ∀ m ∈ ms, f m = f a → m = a) : ix (f a) (ms.map f) = ix a ms := by
  induction ms with
  | nil => rfl
  | cons b l ih =>
    rw [List.map_cons]
    unfold ix
    by_cases e : b = a
    · rw [if_pos e, if_pos (by rw [e])]
    · rw [if_neg e, if_neg fun z => e (inj b (by simp) z), ih fun m hm => inj m (by simp [hm])]

theorem meet_rep (h : Inv x A) (r : Rep A G f) {ms : List Int} {y n : Int} (hm : ∀ m ∈ ms, G.Held m) (hy : A.now y = f n) (hn : n = 0 ∨ G.Held n) :
    meet A.now (ms.map f) y = ((meet id ms n).1.map f, (meet id ms n).2) ∧ ∀ m ∈ (meet id ms n).1, G.Held m := by
  unfold meet
  rcases hn with rfl | hn
  · rw [r.z] at hy
    rw [if_pos hy, if_pos (show (id 0 : Int) = 0 from rfl)]
    exact ⟨rfl, hm⟩
  · have n0 : n ≠ 0 := by
      rintro rfl
      exact r.pos h hn r.z
    rw [hy, if_neg (r.pos h hn), if_neg (show ¬ id n = 0 from n0), ix_map f fun m hm' e => r.inj m n (hm m hm') hn e]
    simp only [id]
    cases e : ix n ms with
    | some i => exact ⟨rfl, hm⟩
    | none =>
      refine ⟨by simp, fun m hm' => ?_⟩
      rcases List.mem_append.1 hm' with z | z
      · exact hm m z
      · rw [List.mem_singleton.1 z]; exact hn

theorem meets_rep (h : Inv x A) (r : Rep A G f) : ∀ {ys ns ms : List Int}, (∀ m ∈ ms, G.Held m) → ys.map A.now = ns.map f → (∀ n ∈ ns, n = 0 ∨ G.Held n) →
    meets A.now (ms.map f) ys = ((meets id ms ns).1.map f, (meets id ms ns).2) ∧ ∀ m ∈ (meets id ms ns).1, G.Held m
  | [], [], _, hm, _, _ => ⟨rfl, hm⟩
  | [], _ :: _, _, _, e, _ => by cases e
  | _ :: _, [], _, _, e, _ => by cases e
  | y :: ys, n :: ns, ms, hm, e, hn => by
    rw [List.map_cons, List.map_cons] at e
    injection e with e1 e2
    obtain ⟨h1, h2⟩ := meet_rep h r hm e1 (hn n (by simp))
    obtain ⟨h3, h4⟩ := meets_rep h r h2 e2 fun k hk => hn k (by simp [hk])
    unfold meets
    rw [h1]
    simp only
    rw [h3]
    exact ⟨rfl, h4⟩

theorem told_rep (h : Inv x A) (r : Rep A G f) : ∀ (n i : Nat) {ms : List Int} (out : List Int), (∀ m ∈ ms, G.Held m) →
    told A.now cv A.dat n i (ms.map f) out = told id cv G.dat n i ms out
  | 0, _, _, _, _ => rfl
  | n + 1, i, ms, out, hm => by
    unfold told
    rw [List.getElem?_map]
    cases e : ms[i]? with
    | none => rfl
    | some m =>
      have hm' := hm m (List.mem_of_getElem? e)
      obtain ⟨d, o, h1, h2, h3, h4, h5⟩ := r.node m hm'
      have d1 : A.dat (f m) = (o.rs, o.ss) := by unfold Hp.dat; rw [h2]
      have d2 : G.dat m = d := by unfold Gph.dat; rw [h1]; rfl
      have hl : o.rs.length = d.1.length := by have := congrArg List.length h4; simpa using this
      obtain ⟨k1, k2⟩ := meets_rep h r hm h4 fun n hn => by
        by_cases z : n = 0
        · exact .inl z
        · exact .inr (.ref hm' h1 hn z)
      simp only [Option.map_some]
      rw [d1, d2]
      unfold toldOb
      rw [k1]
      simp only
      rw [told_rep h r n (i + 1) _ k2, hl, h5]

/-- What is told of a heap is told of the graph that it holds. -/
theorem shown_rep (h : Inv x A) (r : Rep A G f) (n : Nat) : shown A.now cv A.dat n A.hs = shown id cv G.dat n G.hs := by
  obtain ⟨h1, h2⟩ := meets_rep h r (ms := []) (fun m hm => by cases hm) r.hs fun n hn => by
    by_cases z : n = 0
    · exact .inl z
    · exact .inr (.root hn z)
  unfold shown
  rw [List.map_nil] at h1
  rw [h1]
  exact told_rep h r n 0 _ h2

/-- What is met are objects, each once, that stand where they are now. -/
def Met (A : Hp) (met : List Int) : Prop := met.Nodup ∧ ∀ p ∈ met, (p ∈ A.F ∨ p ∈ A.O ∨ p ∈ A.E) ∧ A.now p = p

theorem meet_met (h : Inv x A) {met : List Int} {y : Int} (hm : Met A met) (hy : A.ok y) : Met A (meet A.now met y).1 := by
  unfold meet
  split
  · exact hm
  · rename_i n0
    cases e : ix (A.now y) met with
    | some i => exact hm
    | none =>
      have nm := ix_none.1 e
      refine ⟨List.nodup_append.2 ⟨hm.1, by simp, fun a ha b hb => ?_⟩, fun p hp => ?_⟩
      · rw [List.mem_singleton.1 hb]; exact fun z => nm (z ▸ ha)
      · rcases List.mem_append.1 hp with z | z
        · exact hm.2 p z
        · rw [List.mem_singleton.1 z]
          refine ⟨?_, h.now_stay hy⟩
          rcases h.now_ok hy with q | q | q | q
          · exact absurd q n0
          · exact .inl q
          · exact .inr (.inr q)
          · exact .inr (.inl q)
theorem meets_met (h : Inv x A) : ∀ {ys met : List Int}, Met A met → (∀ y ∈ ys, A.ok y) → Met A (meets A.now met ys).1
  | [], _, hm, _ => hm
  | y :: ys, met, hm, hy => by
    unfold meets
    exact meets_met h (meet_met h hm (hy y (by simp))) fun z hz => hy z (by simp [hz])

theorem nodup_length {l m : List Int} (hl : l.Nodup) (hs : ∀ p ∈ l, p ∈ m) : l.length ≤ m.length := by
  induction l generalizing m with
  | nil => exact Nat.zero_le _
  | cons a l ih =>
    rw [List.nodup_cons] at hl
    have ha := hs a (by simp)
    have := ih (m := m.erase a) hl.2 fun p hp => (List.mem_erase_of_ne (by rintro rfl; exact hl.1 hp)).2 (hs p (by simp [hp]))
    rw [List.length_erase_of_mem ha] at this
    have : 0 < m.length := List.length_pos_of_mem ha
    rw [List.length_cons]
    omega
theorem Met.few {met : List Int} (hm : Met A met) : met.length ≤ (A.F ++ A.O ++ A.E).length :=
  nodup_length hm.1 fun p hp => by have := (hm.2 p hp).1; simp only [List.mem_append]; rcases this with e | e | e <;> simp [e]
end
end Gc
end Go.Proofs.YthmhehehomieiaaGreat

/- General lemmas, of no program: how a law's row follows from a walk that returns true and writes nothing that was there ('Below'); how a struct of one-cell fields is opened. -/
namespace Go.Proofs.YthmhehehomieiaaGreat
open Go.ChangeShapes Go.WideShapes Go.ChangeAt Go.RowKit Go.Deep

section
variable {H : Type} {enc : TypeId × Value → H} {P : Program}

/-- Readings of several arguments stay where nothing old has changed. -/
theorem trodAll_stays (hl : laidOutB P = true) {W W' : World} (bel : Below W.heap.size W W') :
    ∀ (ts : List TypeId) (vs : List Value) (ds : List (DataW H)) (p : List MemPlace), (∀ t ∈ ts, P.readableRec t = true ∧ t < P.types.size) →
      DataW.TrodAll enc P W 0 (fun _ => true) true ts vs ds p → (∀ x ∈ p, x.block < W.heap.size) →
      DataW.TrodAll enc P W' 0 (fun b => decide (b < W.heap.size)) true ts vs ds p
  | [], vs, ds, p, _, h, _ => by
    obtain ⟨rfl, rfl, rfl⟩ := trodAll_nil h
    exact trodAll_mk0
  | t :: ts, vs, ds, p, hr, h, hlt => by
    obtain ⟨v, vs', d, ds', p0, q0, rfl, rfl, rfl, h0, h1⟩ := trodAll_cons h
    have h2 := trodAll_stays hl bel ts vs' ds' q0 (fun t ht => hr t (List.mem_cons_of_mem _ ht)) h1 (fun x hx => hlt x (List.mem_append_right _ hx))
    exact trodAll_cons_mk (Below.trod hl (hr t (List.mem_cons_self ..)).1 (hr t (List.mem_cons_self ..)).2 h0 bel (fun x hx => hlt x (List.mem_append_left _ hx))) h2

/-- The post of a law's row. -/
theorem law_post {f : Func} {s : ChangeSpec} {W W' : World} {args : Array Value} {ds gs : List (DataW H)} {before : List MemPlace} {tb : TypeId}
    (hl : laidOutB P = true) (hr0 : (f.params.toList.all fun t => P.readableRec t && decide (t < P.types.size)) = true) (hb : f.resultTypes = #[tb]) (htb : P.underlying tb = some .bool) (hvars : s.vars = [])
    (hfn : ∀ ds : List (DataW H), ds.length = f.params.toList.length → s.fn H ds = { results := [.lit (.bool true)], args := ds })
    (hW : DataW.Whole enc P f.params.toList s.vars false W args.toList ds gs before) (bel : Below W.heap.size W W') :
    s.post enc P f false true false false W args (.bool true) W' := by
  have hr : ∀ t ∈ f.params.toList, P.readableRec t = true ∧ t < P.types.size := fun t ht => by
    have := List.all_eq_true.1 hr0 t ht
    simpa using this
  have hlt : ∀ p ∈ before, p.block < W.heap.size := fun p hp => hW.lt p hp
  have hW' := hW
  obtain ⟨p, q, hA, hV, rfl, _, _⟩ := hW
  rw [hvars] at hV
  obtain ⟨rfl, rfl⟩ := trodVars_none hV
  have hlen : ∀ (ts : List TypeId) (vs : List Value) (ds : List (DataW H)) (p : List MemPlace), DataW.TrodAll enc P W 0 (fun _ => true) true ts vs ds p → ds.length = ts.length := by
    intro ts
    induction ts with
    | nil => intro vs ds p h; obtain ⟨_, rfl, _⟩ := trodAll_nil h; rfl
    | cons t ts ih =>
      intro vs ds p h
      obtain ⟨v, vs', d, ds', p0, q0, rfl, rfl, rfl, _, h1⟩ := trodAll_cons h
      simp [ih _ _ _ h1]
  have e := hfn (ds ++ []) (by simpa using hlen _ _ _ _ hA)
  refine ⟨ds, [], _, [], p, [], hW', ?_, ?_, ?_, bel.frame _, fun h => by cases h⟩
  · rw [e, hb]
    exact trodAll_mk1 (shut_bool htb _)
  · rw [e]
    simpa using trodAll_stays hl bel _ _ _ _ hr hA (fun x hx => hlt x (List.mem_append_left _ hx))
  · rw [e, hvars]
    rfl

/-- A struct whose fields take one cell each, as an argument: its cells, each with its own reading. -/
theorem open_cells {w : World} {base : Nat} {spare : Nat → Bool} {held : Bool} {r : Reach} {b0 : Nat} {t : TypeId} {fs : Array Field} {v : Value} {d : DataW H} {p : List MemPlace}
    (hs : P.underlying t = some (.struct fs)) (hone : oneCellFields P fs = true) (hC : P.cellsOf t = fs.size)
    (hv : Value.okWide P w r b0 t v) (h : DataW.Trod enc P w base spare held t v d p) :
    ∃ l : List Value, v = .agg ⟨l⟩ ∧ l.length = fs.size ∧ ∃ n, ∀ (j : Nat) (f : Field), fs[j]? = some f → ∃ c y, l[j]? = some c ∧ DataW.trod enc P w base spare held n f.type [c] = some y := by
  obtain ⟨cs, rfl, hsz⟩ := okWide_struct hs hv
  obtain ⟨l⟩ := cs
  obtain ⟨fuel, hf⟩ := h
  obtain ⟨xs, n, _, _, _, hlen, hg⟩ := DataW.trod_struct hs hf
  have hl : l.length = fs.size := by simpa using hsz.trans hC
  refine ⟨l, rfl, hl, n, fun j f hj => ?_⟩
  have hjl : j < fs.size := (Array.getElem?_eq_some_iff.1 hj).1
  obtain ⟨ho, hk⟩ := hone_of hone j f hj
  have h1 := hg j f hj
  rw [ho, hk] at h1
  have e : ((Value.agg ⟨l⟩).cells.toList.drop j).take 1 = [l[j]'(by omega)] := by
    show (l.drop j).take 1 = _
    rw [List.drop_eq_getElem_cons (by omega)]
    rfl
  have hx : xs[j]? = some (xs[j]'(by omega)) := List.getElem?_eq_getElem (by omega)
  refine ⟨l[j]'(by omega), xs[j]'(by omega), List.getElem?_eq_getElem (by omega), ?_⟩
  rw [← hx, ← h1, ← e]
end

/-- A call that only makes new blocks: all old cells and marks read as before. -/
theorem kept_cells {w w' : World} (h : Below w.heap.size w w') :
    (∀ b o, b < w.heap.size → w'.cell? ⟨b, o, none⟩ = w.cell? ⟨b, o, none⟩) ∧ (∀ b o, b < w.heap.size → w'.frozen? ⟨b, o, none⟩ = w.frozen? ⟨b, o, none⟩) :=
  ⟨fun b o hb => h.cell (p := ⟨b, o, none⟩) hb, fun b o hb => h.frozen (p := ⟨b, o, none⟩) hb⟩

theorem below_alloc_trans {w w' : World} (o : Obj) (h : Below (w.alloc o).heap.size (w.alloc o) w') : Below w.heap.size w w' :=
  ((Below.refl _ w).alloc (Nat.le_refl _) o).trans (h.mono (by simp))

theorem below_trans {w w1 w2 : World} (h : Below w.heap.size w w1) (k : Below w1.heap.size w1 w2) : Below w.heap.size w w2 := h.trans (k.mono h.size)

/-- A block that is known whole. -/
def Blk (w : World) (b : Nat) (cs : Array Value) (t : TypeId) : Prop := w.heap[b]? = some (.cells cs t)

theorem Blk.new (w : World) (cs : Array Value) (t : TypeId) : Blk (w.alloc (.cells cs t)) w.heap.size cs t := (MapKept.heap_alloc w _).1

section
variable {w w' : World} {b : Nat} {cs : Array Value} {t : TypeId}
theorem Blk.lt (h : Blk w b cs t) : b < w.heap.size := (Array.getElem?_eq_some_iff.1 h).1
theorem Blk.alloc (h : Blk w b cs t) (o : Obj) : Blk (w.alloc o) b cs t := (Below.heap_alloc w o b h.lt).trans h
theorem Blk.below (h : Blk w b cs t) {B : Nat} (hb : Below B w w') (hB : b < B) : Blk w' b cs t := (hb.block b hB).trans h
theorem Blk.keep (h : Blk w b cs t) (hb : Below w.heap.size w w') : Blk w' b cs t := h.below hb h.lt
theorem Blk.cell (h : Blk w b cs t) (i : Nat) : w.cell? ⟨b, i, none⟩ = cs[i]? := by
  unfold Blk at h
  simp [World.cell?, h]
theorem Blk.frozen (h : Blk w b cs t) (i : Nat) : w.frozen? ⟨b, i, none⟩ = false := by
  unfold Blk at h
  simp [World.frozen?, h]
theorem Blk.seven {v0 v1 v2 v3 v4 v5 v6 : Value} (h : Blk w b #[v0, v1, v2, v3, v4, v5, v6] t) :
    w.cell? ⟨b, 0, none⟩ = some v0 ∧ w.cell? ⟨b, 1, none⟩ = some v1 ∧ w.cell? ⟨b, 2, none⟩ = some v2 ∧ w.cell? ⟨b, 3, none⟩ = some v3 ∧ w.cell? ⟨b, 4, none⟩ = some v4 ∧ w.cell? ⟨b, 5, none⟩ = some v5 ∧ w.cell? ⟨b, 6, none⟩ = some v6 ∧
    (∀ i, w.frozen? ⟨b, i, none⟩ = false) := ⟨h.cell 0, h.cell 1, h.cell 2, h.cell 3, h.cell 4, h.cell 5, h.cell 6, h.frozen⟩
end

theorem own : ownKnob Tryz.prog.godebug = none := by kernel_rfl
theorem laidOut : laidOutB Tryz.prog = true := by kernel_rfl
end Go.Proofs.YthmhehehomieiaaGreat

/- A frame, of no program: which old blocks a call may have turned. -/
namespace Go.Proofs.YthmhehehomieiaaGreat
open Go.RowKit

/-- Of what was there only blocks of S have turned; the streams are as they were. -/
structure Frm (S : Nat → Prop) (w w' : World) : Prop where
  os : w'.os = w.os
  tape : w'.tape = w.tape
  output : w'.output = w.output
  size : w.heap.size ≤ w'.heap.size
  block : ∀ k, k < w.heap.size → ¬ S k → w'.heap[k]? = w.heap[k]?

theorem Frm.refl (S : Nat → Prop) (w : World) : Frm S w w := ⟨rfl, rfl, rfl, Nat.le_refl _, fun _ _ _ => rfl⟩

theorem Frm.trans {S S' : Nat → Prop} {a b c : World} (h : Frm S a b) (k : Frm S' b c) (hs : ∀ i, i < a.heap.size → S' i → S i) : Frm S a c :=
  ⟨k.os.trans h.os, k.tape.trans h.tape, k.output.trans h.output, Nat.le_trans h.size k.size,
    fun i hi hn => (k.block i (Nat.lt_of_lt_of_le hi h.size) (fun e => hn (hs i hi e))).trans (h.block i hi hn)⟩

theorem Frm.mono {S S' : Nat → Prop} {a b : World} (h : Frm S a b) (hs : ∀ i, i < a.heap.size → S i → S' i) : Frm S' a b :=
  ⟨h.os, h.tape, h.output, h.size, fun i hi hn => h.block i hi (fun e => hn (hs i hi e))⟩

theorem Frm.of_below {S : Nat → Prop} {w w' : World} (h : Below w.heap.size w w') : Frm S w w' := ⟨h.os, h.tape, h.output, h.size, fun k hk _ => h.block k hk⟩

theorem Frm.alloc {S : Nat → Prop} {a w : World} (h : Frm S a w) (o : Obj) : Frm S a (w.alloc o) :=
  ⟨h.os, h.tape, h.output, Nat.le_trans h.size (by simp), fun k hk hn => (Below.heap_alloc w o k (Nat.lt_of_lt_of_le hk h.size)).trans (h.block k hk hn)⟩

theorem Frm.setCell {S : Nat → Prop} {a w : World} (h : Frm S a w) {p : Addr} (hp : p.block < a.heap.size → S p.block) (u : Value) : Frm S a (w.setCell p u) :=
  ⟨h.os, h.tape, h.output, by simpa [World.setCell] using h.size, fun k hk hn => (Below.heap_setCell w p u k (fun e => hn (e ▸ hp (e ▸ hk)))).trans (h.block k hk hn)⟩

theorem Frm.setRow {S : Nat → Prop} {a w : World} (h : Frm S a w) {g : Nat} (hg : g < a.heap.size → S g) (cs : Array Value) : Frm S a (w.setRow g cs) :=
  ⟨h.os, h.tape, h.output, by simpa [World.setRow] using h.size, fun k hk hn => (setRow_other w g k cs (fun e => hn (e ▸ hg (e ▸ hk)))).trans (h.block k hk hn)⟩

theorem Frm.drew {S : Nat → Prop} {a w : World} (h : Frm S a w) : Frm S a w.drew := ⟨h.os, h.tape, h.output, h.size, h.block⟩

theorem Frm.below {S : Nat → Prop} {B : Nat} {w w' : World} (h : Frm S w w') (hB : B ≤ w.heap.size) (hs : ∀ k, k < B → ¬ S k) : Below B w w' :=
  ⟨h.os, h.tape, h.output, h.size, fun k hk => h.block k (Nat.lt_of_lt_of_le hk hB) (hs k hk)⟩

/-- What was made since w0, and old blocks as they were. -/
theorem Below.frm {S : Nat → Prop} {B : Nat} {w0 w w' : World} (h : Below B w0 w) (f : Frm S w w') (hB : B ≤ w.heap.size) (hs : ∀ k, k < B → ¬ S k) : Below B w0 w' :=
  h.trans (f.below hB hs)

theorem Blk.frm {S : Nat → Prop} {w w' : World} {b : Nat} {cs : Array Value} {t : TypeId} (h : Blk w b cs t) (f : Frm S w w') (hb : ¬ S b) : Blk w' b cs t := (f.block b h.lt hb).trans h

theorem Blk.set_ {w : World} {b : Nat} {cs : Array Value} {t : TypeId} (h : Blk w b cs t) (i : Nat) (u : Value) : Blk (w.setCell ⟨b, i, none⟩ u) b (cs.setIfInBounds i u) t := by
  unfold Blk at h ⊢
  simp [World.setCell, Array.getElem?_modify, h]
theorem Blk.far {w : World} {b : Nat} {cs : Array Value} {t : TypeId} (h : Blk w b cs t) {p : Addr} (hp : b ≠ p.block) (u : Value) : Blk (w.setCell p u) b cs t := (Below.heap_setCell w p u b hp).trans h
theorem Blk.drew {w : World} {b : Nat} {cs : Array Value} {t : TypeId} (h : Blk w b cs t) : Blk w.drew b cs t := h
theorem Blk.row {w : World} {b : Nat} {cs ds : Array Value} {t : TypeId} (h : Blk w b cs t) : Blk (w.setRow b ds) b ds t := setRow_heap w b cs _ t _ h
theorem Blk.farRow {w : World} {b g : Nat} {cs ds : Array Value} {t : TypeId} (h : Blk w b cs t) (hg : b ≠ g) : Blk (w.setRow g ds) b cs t := (setRow_other w g b ds hg).trans h
theorem Blk.ne_ {w : World} {g g' : Nat} {t t' : TypeId} {cs cs' : Array Value} (h : Blk w g cs t) (h' : Blk w g' cs' t') (hne : t ≠ t') : g ≠ g' := by
  rintro rfl
  unfold Blk at h h'
  rw [h] at h'
  injection h' with h'
  injection h' with _ ht
  exact hne ht
end Go.Proofs.YthmhehehomieiaaGreat

/- Flags in memory: made, read, set; of no program's own functions. -/
namespace Go.Proofs.YthmhehehomieiaaGreat
open Go.RowKit

theorem madeB (n : Nat) : madeCells (Value.bool false).cells n = ((List.replicate n false).map Value.bool).toArray := by
  apply Array.ext
  · simp [madeCells]
  · intro i h1 h2
    simp [madeCells, Value.cells, Nat.mod_one]

theorem info_bool : (Tryz.prog.info? 4).map (fun i => (i.zero, i.size, i.bytes)) = some (some (.bool false), 1, 1) := by kernel_rfl

/-- Flags that are made. -/
theorem run_make_bool (n : Int) (h0 : 0 ≤ n) (h1 : n ≤ 1073741824) (w : World) :
    (Instr.makeSlice 40 (.int .i64 n) (.int .i64 n)).run Tryz.prog w = .ok (.slice (some ⟨w.heap.size, 0, none⟩) n.toNat n.toNat) (w.alloc (.cells ((List.replicate n.toNat false).map Value.bool).toArray 4)) := by
  obtain ⟨i, hi, hz, hs, hb⟩ := info_parts info_bool
  have h := run_make (P := Tryz.prog) w 40 4 i _ Tryz.underlying40 hi hz .i64 .i64 n n h0 (Int.le_refl _) (by rw [hb]; omega) (by omega)
  rw [hs, Nat.mul_one, madeB] at h
  exact h

theorem Blk.bools {w : World} {b : Nat} {t : TypeId} {ps : List Bool} (h : Blk w b (ps.map Value.bool).toArray t) {i : Nat} {x : Bool} (hx : ps[i]? = some x) : w.cell? ⟨b, i, none⟩ = some (.bool x) := by
  rw [h.cell]; simp [hx]

theorem Blk.setBool {w : World} {b : Nat} {t : TypeId} {ps : List Bool} (h : Blk w b (ps.map Value.bool).toArray t) (i : Nat) (x : Bool) : Blk (w.setCell ⟨b, i, none⟩ (.bool x)) b ((ps.set i x).map Value.bool).toArray t := by
  have := h.set_ i (.bool x)
  have e : (ps.map Value.bool).toArray.setIfInBounds i (.bool x) = ((ps.set i x).map Value.bool).toArray := by
    apply Array.ext'
    simp
  rw [← e]
  exact this

theorem ret_bool {p q : Bool} (h : p = q) : Ending.returned (.bool p) = .returned (.bool q) := by rw [h]
theorem ret_int {k : IntKind} {a b : Int} (h : a = b) : Ending.returned (.int k a) = .returned (.int k b) := by rw [h]
theorem ret_pair {a b : Int} {p q : Bool} (h : a = b) (k : p = q) : Ending.returned (.tuple #[.int .i64 a, .bool p]) = .returned (.tuple #[.int .i64 b, .bool q]) := by rw [h, k]
theorem ret_two {a b c d : Int} (h : a = b) (k : c = d) : Ending.returned (.tuple #[.int .i64 a, .int .i64 c]) = .returned (.tuple #[.int .i64 b, .int .i64 d]) := by rw [h, k]

theorem below_drewN (w : World) (m : Nat) : Below w.heap.size w (w.drewN m) := ⟨rfl, rfl, rfl, Nat.le_refl _, fun _ _ => rfl⟩
theorem below_drew (w : World) : Below w.heap.size w w.drew := ⟨rfl, rfl, rfl, Nat.le_refl _, fun _ _ => rfl⟩
theorem Frm.drewN {S : Nat → Prop} {a w : World} (h : Frm S a w) (m : Nat) : Frm S a (w.drewN m) := ⟨h.os, h.tape, h.output, h.size, h.block⟩
end Go.Proofs.YthmhehehomieiaaGreat

/- An arena in memory; contracts of has, Len. -/
namespace Go.Proofs.YthmhehehomieiaaGreat
open Go.RowKit

/-- Words as cells. -/
def u64s (ws : List Int) : Array Value := (ws.map (Value.int .u64)).toArray

/-- Block a is an arena whose words ws lie in block b, and of which c words were asked for. -/
def IsAr (w : World) (a b : Nat) (ws : List Int) (c : Int) : Prop :=
  Blk w a #[.slice (some ⟨b, 0, none⟩) ws.length ws.length, .int .i64 c] 114 ∧ Blk w b (u64s ws) 51

abbrev arP (a : Nat) : Value := .pointer (some ⟨a, 0, none⟩)

/-- Are there n words from a place on? -/
def hasB (len : Nat) (at_ n : Int) : Bool := decide (0 ≤ n ∧ 0 ≤ at_ ∧ n ≤ len - at_)

theorem hasB_iff (len : Nat) (at_ n : Int) : hasB len at_ n = true ↔ 0 ≤ n ∧ 0 ≤ at_ ∧ at_ + n ≤ len := by
  unfold hasB; rw [decide_eq_true_eq]; omega
theorem hasB_no (len : Nat) (at_ n : Int) : hasB len at_ n = false ↔ ¬ (0 ≤ n ∧ 0 ≤ at_ ∧ at_ + n ≤ len) := by
  unfold hasB; rw [decide_eq_false_iff_not]; omega

section
variable {w w' : World} {a b : Nat} {ws : List Int} {c : Int}
theorem IsAr.ne (h : IsAr w a b ws c) : a ≠ b := h.1.ne_ h.2 (by decide)
theorem IsAr.ltA (h : IsAr w a b ws c) : a < w.heap.size := h.1.lt
theorem IsAr.ltB (h : IsAr w a b ws c) : b < w.heap.size := h.2.lt
theorem IsAr.cells (h : IsAr w a b ws c) : w.cell? ⟨a, 0, none⟩ = some (.slice (some ⟨b, 0, none⟩) ws.length ws.length) ∧ w.cell? ⟨a, 1, none⟩ = some (.int .i64 c) ∧ w.frozen? ⟨a, 1, none⟩ = false :=
  ⟨h.1.cell 0, h.1.cell 1, h.1.frozen 1⟩
theorem IsAr.word (h : IsAr w a b ws c) (k : Nat) (x : Int) (hx : ws[k]? = some x) : w.cell? ⟨b, k, none⟩ = some (.int .u64 x) := by
  rw [h.2.cell k]; simp [u64s, hx]
theorem IsAr.frm {S : Nat → Prop} (h : IsAr w a b ws c) (f : Frm S w w') (ha : ¬ S a) (hb : ¬ S b) : IsAr w' a b ws c := ⟨h.1.frm f ha, h.2.frm f hb⟩
theorem IsAr.keep (h : IsAr w a b ws c) (f : Below w.heap.size w w') : IsAr w' a b ws c := ⟨h.1.keep f, h.2.keep f⟩
theorem IsAr.alloc (h : IsAr w a b ws c) (o : Obj) : IsAr (w.alloc o) a b ws c := ⟨h.1.alloc o, h.2.alloc o⟩
end

set_option maxHeartbeats 400000 in
theorem has_nil (at_ n : Int) (w : World) :
    Calls Tryz.prog 74 #[.pointer none, .int .i64 at_, .int .i64 n] w fun e w' => e = .returned (.bool false) ∧ w = w' := by
  go_enter Tryz.func74, Tryz.ntmps74
  go_wp2
  go_ret
  exact ⟨rfl, rfl⟩

set_option maxHeartbeats 1000000 in
theorem has_any (a b : Nat) (ws : List Int) (c at_ n : Int) (w : World) (h : IsAr w a b ws c) (hl : ws.length ≤ 1048576) (a1 : at_ ≤ 9223372036854775807) :
    Calls Tryz.prog 74 #[arP a, .int .i64 at_, .int .i64 n] w fun e w' => e = .returned (.bool (hasB ws.length at_ n)) ∧ w = w' := by
  obtain ⟨c0, _, _⟩ := h.cells
  clear h
  generalize ws.length = len at *
  by_cases h0 : 0 ≤ n
  · by_cases h1 : 0 ≤ at_
    · by_cases h2 : n ≤ len - at_
      all_goals
        go_enter Tryz.func74, Tryz.ntmps74
        go_wp2
        go_ret
        exact ⟨by simp [hasB, h0, h1, h2], rfl⟩
    · go_enter Tryz.func74, Tryz.ntmps74
      go_wp2
      go_ret
      exact ⟨by rw [show hasB len at_ n = false from (hasB_no ..).2 (by omega)]; rfl, rfl⟩
  · go_enter Tryz.func74, Tryz.ntmps74
    go_wp2
    go_ret
    exact ⟨by rw [show hasB len at_ n = false from (hasB_no ..).2 (by omega)]; rfl, rfl⟩

set_option maxHeartbeats 400000 in
theorem len_nil (w : World) : Calls Tryz.prog 22 #[.pointer none] w fun e w' => e = .returned (.int .i64 0) ∧ w = w' := by
  go_enter Tryz.func22, Tryz.ntmps22
  go_wp2
  go_ret
  exact ⟨rfl, rfl⟩

set_option maxHeartbeats 400000 in
theorem len_any (a b : Nat) (ws : List Int) (c : Int) (w : World) (h : IsAr w a b ws c) :
    Calls Tryz.prog 22 #[arP a] w fun e w' => e = .returned (.int .i64 ws.length) ∧ w = w' := by
  obtain ⟨c0, _, _⟩ := h.cells
  clear h
  generalize ws.length = len at *
  go_enter Tryz.func22, Tryz.ntmps22
  go_wp2
  go_ret
  exact ⟨rfl, rfl⟩
end Go.Proofs.YthmhehehomieiaaGreat

/- Contracts of New, Load, Store. -/
namespace Go.Proofs.YthmhehehomieiaaGreat
open Go.RowKit

theorem madeU (n : Nat) : madeCells (Value.int .u64 0).cells n = u64s (List.replicate n 0) := by
  apply Array.ext
  · simp [madeCells, u64s]
  · intro i h1 h2
    simp [madeCells, u64s, Value.cells, Nat.mod_one]

theorem info_u64 : (Tryz.prog.info? 51).map (fun i => (i.zero, i.size, i.bytes)) = some (some (.int .u64 0), 1, 8) := by kernel_rfl

/-- Words that are made. -/
theorem run_make_u64 (n : Int) (h0 : 0 ≤ n) (h1 : n ≤ 1073741824) (w : World) :
    (Instr.makeSlice 59 (.int .i64 n) (.int .i64 n)).run Tryz.prog w = .ok (.slice (some ⟨w.heap.size, 0, none⟩) n.toNat n.toNat) (w.alloc (.cells (u64s (List.replicate n.toNat 0)) 51)) := by
  obtain ⟨i, hi, hz, hs, hb⟩ := info_parts info_u64
  have h := run_make (P := Tryz.prog) w 59 51 i _ Tryz.underlying59 hi hz .i64 .i64 n n h0 (Int.le_refl _) (by rw [hb]; omega) (by omega)
  rw [hs, Nat.mul_one, madeU] at h
  exact h

def clampN (n : Int) : Nat := (min (max n 0) 1048576).toNat

theorem clamp_le (n : Int) : clampN n ≤ 1048576 := by unfold clampN; omega

theorem isAr_new (w : World) (ws : List Int) (c : Int) : IsAr ((w.alloc (.cells (u64s ws) 51)).alloc (.cells #[.slice (some ⟨w.heap.size, 0, none⟩) ws.length ws.length, .int .i64 c] 114)) (w.heap.size + 1) w.heap.size ws c := by
  refine ⟨?_, (Blk.new w _ _).alloc _⟩
  have h := Blk.new (w.alloc (.cells (u64s ws) 51)) #[.slice (some ⟨w.heap.size, 0, none⟩) ws.length ws.length, .int .i64 c] 114
  simpa using h

theorem new_end (w : World) (n : Int) (k : Nat) (hk : k = clampN n) (p : Value) (hp : p = arP (w.heap.size + 1)) (W : World) (hW : W = (w.alloc (.cells (u64s (List.replicate k 0)) 51)).alloc (.cells #[.slice (some ⟨w.heap.size, 0, none⟩) k k, .int .i64 0] 114)) :
    Ending.returned p = .returned (arP (w.heap.size + 1)) ∧ IsAr W (w.heap.size + 1) w.heap.size (List.replicate (clampN n) 0) 0 ∧ Below w.heap.size w W := by
  subst hk hp hW
  refine ⟨rfl, ?_, ((Below.refl _ _).alloc (Nat.le_refl _) _).alloc (by simp) _⟩
  have h := isAr_new w (List.replicate (clampN n) 0) 0
  rw [List.length_replicate] at h
  exact h

set_option maxRecDepth 100000 in
set_option maxHeartbeats 1000000 in
theorem new_any (n : Int) (w : World) :
    Calls Tryz.prog 61 #[.int .i64 n] w fun e w' => e = .returned (arP (w.heap.size + 1)) ∧ IsAr w' (w.heap.size + 1) w.heap.size (List.replicate (clampN n) 0) 0 ∧ Below w.heap.size w w' := by
  by_cases h0 : n < 0
  · have hmk := run_make_u64 0 (by omega) (by omega)
    have hk : 0 = clampN n := by unfold clampN; omega
    have HK := Lib.hid hk
    clear hk
    go_enter Tryz.func61, Tryz.ntmps61
    go_wp2
    go_ret
    exact new_end w n 0 HK.out _ rfl _ rfl
  · by_cases h1 : n ≤ 1048576
    · have hmk := run_make_u64 n (by omega) (by omega)
      have hk : n.toNat = clampN n := by unfold clampN; omega
      have HK := Lib.hid hk
      clear hk
      go_enter Tryz.func61, Tryz.ntmps61
      go_wp2
      go_ret
      exact new_end w n _ HK.out _ rfl _ rfl
    · have hmk0 := run_make_u64 1048576 (by omega) (by omega)
      have hk : (1048576 : Int).toNat = clampN n := by unfold clampN; omega
      obtain ⟨K, hK⟩ : ∃ K, K = clampN n := ⟨_, rfl⟩
      rw [hk, ← hK] at hmk0
      have hmk := hmk0
      have HK := Lib.hid hK
      clear hk hmk0 hK
      go_enter Tryz.func61, Tryz.ntmps61
      go_wp2
      go_ret
      exact new_end w n _ HK.out _ rfl _ rfl

set_option maxHeartbeats 1000000 in
theorem load_nil (at_ : Int) (w : World) :
    Calls Tryz.prog 28 #[.pointer none, .int .i64 at_] w fun e w' => e = .returned (.tuple #[.int .u64 0, .int .i64 2]) ∧ w = w' := by
  go_enter Tryz.func28, Tryz.ntmps28
  go_wp2_with fail
  refine (has_nil _ _ _).mono ?_
  rintro e w' ⟨rfl, rfl⟩
  go_wp2
  go_ret2
  exact ⟨rfl, rfl⟩

set_option maxHeartbeats 1000000 in
theorem load_no (a b : Nat) (ws : List Int) (c at_ : Int) (w : World) (h : IsAr w a b ws c) (hl : ws.length ≤ 1048576) (a1 : at_ ≤ 9223372036854775807) (hh : hasB ws.length at_ 1 = false) :
    Calls Tryz.prog 28 #[arP a, .int .i64 at_] w fun e w' => e = .returned (.tuple #[.int .u64 0, .int .i64 2]) ∧ w = w' := by
  go_enter Tryz.func28, Tryz.ntmps28
  go_wp2_with fail
  refine (has_any a b ws c _ _ _ h hl a1).mono ?_
  rintro e w' ⟨rfl, rfl⟩
  go_wp2
  go_ret2
  exact ⟨rfl, rfl⟩

/-- A count that has grown. -/
def addC (c n : Int) : Int := wrap64 (c + n)

theorem addC_in (c n : Int) (h0 : -9223372036854775808 ≤ c + n) (h1 : c + n ≤ 9223372036854775807) : addC c n = c + n := by
  unfold addC wrap64; omega

theorem isAr_count {w : World} {a b : Nat} {ws : List Int} {c : Int} (h : IsAr w a b ws c) (d : Int) : IsAr (w.setCell ⟨a, 1, none⟩ (.int .i64 d)) a b ws d :=
  ⟨h.1.set_ 1 _, h.2.far (p := ⟨a, 1, none⟩) (Ne.symm h.ne) _⟩

/-- Only the arena has turned: its words and its count are these. -/
structure Turns (a b : Nat) (ws : List Int) (c : Int) (w w' : World) : Prop where
  is : IsAr w' a b ws c
  frm : Frm (fun k => k = a ∨ k = b) w w'
  size : w'.heap.size = w.heap.size

theorem turns_count {w : World} {a b : Nat} {ws : List Int} {c : Int} (h : IsAr w a b ws c) (d : Int) : Turns a b ws d w (w.setCell ⟨a, 1, none⟩ (.int .i64 d)) :=
  ⟨isAr_count h d, (Frm.refl _ w).setCell (p := ⟨a, 1, none⟩) (fun _ => .inl rfl) _, by simp [World.setCell]⟩

set_option maxHeartbeats 1000000 in
theorem load_yes (a b : Nat) (ws : List Int) (c : Int) (k : Nat) (x : Int) (w : World) (h : IsAr w a b ws c) (hl : ws.length ≤ 1048576) (hx : ws[k]? = some x) :
    Calls Tryz.prog 28 #[arP a, .int .i64 k] w fun e w' => e = .returned (.tuple #[.int .u64 x, .int .i64 0]) ∧ Turns a b ws (addC c 1) w w' := by
  have HT := Lib.hid (turns_count h (addC c 1))
  have hk : k < ws.length := (List.getElem?_eq_some_iff.1 hx).1
  have hh : hasB ws.length k 1 = true := (hasB_iff ..).2 ⟨by omega, by omega, by omega⟩
  have hW := h.word k x hx
  have hn := h.ne
  obtain ⟨c0, c1, f1⟩ := h.cells
  have H := has_any a b ws c k 1 w h hl (by omega)
  have HH := Lib.hid H
  clear H hx h
  generalize ws.length = len at *
  go_enter Tryz.func28, Tryz.ntmps28
  go_wp2_with fail
  refine HH.out.mono ?_
  rintro e w' ⟨rfl, rfl⟩
  go_wp2
  go_ret2
  exact ⟨rfl, HT.out⟩

theorem set_u64s (ws : List Int) (k : Nat) (x : Int) : (u64s ws).setIfInBounds k (.int .u64 x) = u64s (ws.set k x) := by
  simp [u64s, List.map_set]

theorem turns_store {w : World} {a b : Nat} {ws : List Int} {c : Int} (h : IsAr w a b ws c) (d : Int) (k : Nat) (x : Int) :
    Turns a b (ws.set k x) d w ((w.setCell ⟨a, 1, none⟩ (.int .i64 d)).setCell ⟨b, k, none⟩ (.int .u64 x)) := by
  have h1 := isAr_count h d
  refine ⟨⟨?_, ?_⟩, ((Frm.refl _ w).setCell (p := ⟨a, 1, none⟩) (fun _ => .inl rfl) _).setCell (p := ⟨b, k, none⟩) (fun _ => .inr rfl) _, by simp [World.setCell]⟩
  · have h2 := h1.1.far (p := ⟨b, k, none⟩) h.ne (.int .u64 x)
    rw [List.length_set]
    exact h2
  · have h2 := h1.2.set_ k (.int .u64 x)
    rw [set_u64s] at h2
    exact h2

set_option maxHeartbeats 1000000 in
theorem store_nil (at_ x : Int) (w : World) :
    Calls Tryz.prog 146 #[.pointer none, .int .i64 at_, .int .u64 x] w fun e w' => e = .returned (.int .i64 2) ∧ w = w' := by
  go_enter Tryz.func146, Tryz.ntmps146
  go_wp2_with fail
  refine (has_nil _ _ _).mono ?_
  rintro e w' ⟨rfl, rfl⟩
  go_wp2
  go_ret
  exact ⟨rfl, rfl⟩

set_option maxHeartbeats 1000000 in
theorem store_no (a b : Nat) (ws : List Int) (c at_ x : Int) (w : World) (h : IsAr w a b ws c) (hl : ws.length ≤ 1048576) (a1 : at_ ≤ 9223372036854775807) (hh : hasB ws.length at_ 1 = false) :
    Calls Tryz.prog 146 #[arP a, .int .i64 at_, .int .u64 x] w fun e w' => e = .returned (.int .i64 2) ∧ w = w' := by
  go_enter Tryz.func146, Tryz.ntmps146
  go_wp2_with fail
  refine (has_any a b ws c _ _ _ h hl a1).mono ?_
  rintro e w' ⟨rfl, rfl⟩
  go_wp2
  go_ret
  exact ⟨rfl, rfl⟩

set_option maxHeartbeats 1000000 in
theorem store_yes (a b : Nat) (ws : List Int) (c : Int) (k : Nat) (x : Int) (w : World) (h : IsAr w a b ws c) (hl : ws.length ≤ 1048576) (hk : k < ws.length) :
    Calls Tryz.prog 146 #[arP a, .int .i64 k, .int .u64 x] w fun e w' => e = .returned (.int .i64 0) ∧ Turns a b (ws.set k x) (addC c 1) w w' := by
  have HT := Lib.hid (turns_store h (addC c 1) k x)
  have hh : hasB ws.length k 1 = true := (hasB_iff ..).2 ⟨by omega, by omega, by omega⟩
  have hW := h.word k _ (List.getElem?_eq_getElem hk)
  have hF := h.2.frozen k
  have hn := h.ne
  obtain ⟨c0, c1, f1⟩ := h.cells
  have H := has_any a b ws c k 1 w h hl (by omega)
  have HH := Lib.hid H
  clear H h
  generalize ws[k] = y at *
  generalize ws.length = len at *
  go_enter Tryz.func146, Tryz.ntmps146
  go_wp2_with fail
  refine HH.out.mono ?_
  rintro e w' ⟨rfl, rfl⟩
  go_wp2
  go_ret
  exact ⟨rfl, HT.out⟩
end Go.Proofs.YthmhehehomieiaaGreat

/- Contracts of Zero and Copy; 'clear' as a law for the walk. -/
namespace Go.Proofs.YthmhehehomieiaaGreat
open Go.RowKit

theorem zeroU (n : Nat) : (Builtin.zeroCells (Value.int .u64 0).cells n).toList = List.replicate n (Value.int .u64 0) := by
  apply List.ext_getElem
  · simp [size_zeroCells, Value.cells]
  · intro i h1 h2
    simp [Builtin.zeroCells, Value.cells, Nat.mod_one]

theorem run_clear {P : Program} (w : World) (T ty elem : TypeId) (i : TypeInfo) (z : Value) (hu : P.underlying T = some (.slice elem)) (hi : P.info? elem = some i) (hz : i.zero = some z) (zs : List Value) (n : Nat)
    (hzs : (Builtin.zeroCells z.cells n).toList = zs) (hlen : zs.length = n) (hone : ∀ v ∈ zs, v.oneCell' = true)
    (sp : Option Addr) (cap g off : Nat) (cur : List Value) (t : TypeId) (hg : w.heap[g]? = some (.cells cur.toArray t (0, 0))) (hpos : 0 < n → sp = some ⟨g, off, none⟩) (hfit : off + n ≤ cur.length) :
    (Builtin.clear_ #[T] ty #[.slice sp n cap]).run P w = .ok (.tuple #[]) (w.setRow g (splice cur off zs).toArray) := by
  by_cases h0 : n = 0
  · subst h0
    obtain rfl : zs = [] := List.eq_nil_of_length_eq_zero hlen
    have e : w.setRow g (splice cur off []).toArray = w := by
      have : splice cur off [] = cur := by simp [splice]
      rw [this]
      exact setRow_self w g _ t _ hg
    rw [e]
    cases sp <;> simp [Builtin.clear_, run_underlying hu]
  · obtain rfl := hpos (by omega)
    have hst := run_storeCells_at P g off t zs 0 cur.toArray w hg (by simp; omega) hone
    obtain ⟨m, rfl⟩ : ∃ m, n = m + 1 := ⟨n - 1, by omega⟩
    simp [Builtin.clear_, run_underlying hu, zeroValue, typeInfo, hi, hz, hzs]
    simp at hst
    rw [hst]
    simp [splice]

theorem wpList_clear {P : Program} {w : World} {ops : Array Oper} {rest : List Oper} {o : Oper} {a : Act} {Q : Exit → Act → World → Prop} (hgd : o.guard = none) (s : Operand) (T : TypeId)
    (ho : o.op = .call { callee := .builtin .clear, args := #[s], argTypes := #[T] }) (elem : TypeId) (i : TypeInfo) (z : Value) (hu : P.underlying T = some (.slice elem)) (hi : P.info? elem = some i) (hz : i.zero = some z) (zs : List Value) (n : Nat)
    (hzs : (Builtin.zeroCells z.cells n).toList = zs) (hlen : zs.length = n) (hone : ∀ v ∈ zs, v.oneCell' = true)
    (sp : Option Addr) (cap g off : Nat) (cur : List Value) (t : TypeId) (hs : a.eval s = .slice sp n cap) (hg : w.heap[g]? = some (.cells cur.toArray t (0, 0))) (hpos : 0 < n → sp = some ⟨g, off, none⟩) (hfit : off + n ≤ cur.length)
    (h : wpList P ops Q rest (a.put o.dst (.tuple #[])) (w.setRow g (splice cur off zs).toArray)) : wpList P ops Q (o :: rest) a w := by
  refine wpList_plain hgd fun K hK => ?_
  have hrun := run_clear (P := P) w T o.type elem i z hu hi hz zs n hzs hlen hone sp cap g off cur t hg hpos hfit
  unfold Oper.wp
  simp [execOp, ho, resolve, invoke, builtin, hs, hrun, Result.andThen]
  exact hK _ _ h

theorem splice_map {α β : Type} (f : α → β) (L : List α) (off : Nat) (cs : List α) : splice (L.map f) off (cs.map f) = (splice L off cs).map f := by
  simp [splice, List.map_take, List.map_drop]

theorem turns_row {w : World} {a b : Nat} {ws : List Int} {c : Int} (h : IsAr w a b ws c) (d : Int) (off : Nat) (cs : List Int) (hf : off + cs.length ≤ ws.length) (vs : List Value) (hv : vs = cs.map (Value.int .u64)) :
    Turns a b (splice ws off cs) d w ((w.setCell ⟨a, 1, none⟩ (.int .i64 d)).setRow b (splice (ws.map (Value.int .u64)) off vs).toArray) := by
  subst hv
  have h1 := isAr_count h d
  refine ⟨⟨?_, ?_⟩, ((Frm.refl _ w).setCell (p := ⟨a, 1, none⟩) (fun _ => .inl rfl) _).setRow (fun _ => .inr rfl) _, by simp [World.setCell]⟩
  · rw [length_splice _ _ _ hf]
    exact h1.1.farRow h.ne
  · rw [splice_map]
    exact h1.2.row

set_option maxHeartbeats 1000000 in
theorem zero_nil (at_ n : Int) (w : World) :
    Calls Tryz.prog 126 #[.pointer none, .int .i64 at_, .int .i64 n] w fun e w' => e = .returned (.int .i64 2) ∧ w = w' := by
  go_enter Tryz.func126, Tryz.ntmps126
  go_wp2_with fail
  refine (has_nil _ _ _).mono ?_
  rintro e w' ⟨rfl, rfl⟩
  go_wp2
  go_ret
  exact ⟨rfl, rfl⟩

set_option maxHeartbeats 1000000 in
theorem zero_no (a b : Nat) (ws : List Int) (c at_ n : Int) (w : World) (h : IsAr w a b ws c) (hl : ws.length ≤ 1048576) (a1 : at_ ≤ 9223372036854775807) (hh : hasB ws.length at_ n = false) :
    Calls Tryz.prog 126 #[arP a, .int .i64 at_, .int .i64 n] w fun e w' => e = .returned (.int .i64 2) ∧ w = w' := by
  go_enter Tryz.func126, Tryz.ntmps126
  go_wp2_with fail
  refine (has_any a b ws c _ _ _ h hl a1).mono ?_
  rintro e w' ⟨rfl, rfl⟩
  go_wp2
  go_ret
  exact ⟨rfl, rfl⟩

theorem map_replicate0 (n : Nat) : List.replicate n (Value.int .u64 0) = (List.replicate n (0 : Int)).map (Value.int .u64) := by simp

set_option maxHeartbeats 1000000 in
theorem zero_yes (a b : Nat) (ws : List Int) (c : Int) (k n : Nat) (w : World) (h : IsAr w a b ws c) (hl : ws.length ≤ 1048576) (hk : k + n ≤ ws.length) :
    Calls Tryz.prog 126 #[arP a, .int .i64 k, .int .i64 n] w fun e w' => e = .returned (.int .i64 0) ∧ Turns a b (splice ws k (List.replicate n 0)) (addC c n) w w' := by
  have HT := Lib.hid (turns_row h (addC c n) k (List.replicate n 0) (by simpa using hk) _ (map_replicate0 n))
  have hh : hasB ws.length k n = true := (hasB_iff ..).2 ⟨by omega, by omega, by omega⟩
  have hn := h.ne
  obtain ⟨c0, c1, f1⟩ := h.cells
  have H := has_any a b ws c k n w h hl (by omega)
  have HH := Lib.hid H
  have HA := (isAr_count h (addC c n)).2
  have HF : k + n ≤ (ws.map (Value.int .u64)).length := by simpa using hk
  clear H h
  unfold u64s at HA
  generalize ws.map (Value.int .u64) = cur at *
  generalize ws.length = len at *
  obtain ⟨i, hi, hz, _, _⟩ := info_parts info_u64
  have hcl : ∀ sp cap, (0 < n → sp = some ⟨b, k, none⟩) → (Builtin.clear_ #[59] 0 #[.slice sp n cap]).run Tryz.prog (w.setCell ⟨a, 1, none⟩ (.int .i64 (wrap64 (c + n)))) =
      .ok (.tuple #[]) ((w.setCell ⟨a, 1, none⟩ (.int .i64 (addC c n))).setRow b (splice cur k (List.replicate n (Value.int .u64 0))).toArray) := by
    intro sp cap hsp
    exact run_clear (P := Tryz.prog) _ 59 0 51 i _ Tryz.underlying59 hi hz _ n (zeroU n) (by simp) (by intro v hv; rw [List.eq_of_mem_replicate hv]; rfl) sp cap b k cur _ HA hsp HF
  clear HA hi hz HF
  obtain ⟨zs, hzs⟩ : ∃ zs, zs = List.replicate n (Value.int .u64 0) := ⟨_, rfl⟩
  rw [← hzs] at hcl HT
  clear hzs
  by_cases hc : len = k
  · subst hc
    have h0 : n = 0 := by omega
    replace hcl := (congrArg (fun m => (Builtin.clear_ #[59] 0 #[.slice (some ⟨b, 0, none⟩) m 0]).run Tryz.prog (w.setCell ⟨a, 1, none⟩ (.int .i64 (wrap64 (c + n))))) h0).symm.trans (hcl (some ⟨b, 0, none⟩) 0 (by omega))
    clear h0
    go_enter Tryz.func126, Tryz.ntmps126
    go_wp2_with fail
    refine HH.out.mono ?_
    rintro e w' ⟨rfl, rfl⟩
    go_wp2
    go_ret
    exact ⟨rfl, HT.out⟩
  · replace hcl := hcl (some ⟨b, k, none⟩) (len - k) (fun _ => rfl)
    go_enter Tryz.func126, Tryz.ntmps126
    go_wp2_with fail
    refine HH.out.mono ?_
    rintro e w' ⟨rfl, rfl⟩
    go_wp2
    go_ret
    exact ⟨rfl, HT.out⟩

set_option maxHeartbeats 1000000 in
theorem copy_nil (x y n : Int) (w : World) :
    Calls Tryz.prog 122 #[.pointer none, .int .i64 x, .int .i64 y, .int .i64 n] w fun e w' => e = .returned (.int .i64 2) ∧ w = w' := by
  go_enter Tryz.func122, Tryz.ntmps122
  go_wp2_with fail
  refine (has_nil _ _ _).mono ?_
  rintro e w' ⟨rfl, rfl⟩
  go_wp2
  go_ret
  exact ⟨rfl, rfl⟩

set_option maxHeartbeats 1000000 in
theorem copy_no (a b : Nat) (ws : List Int) (c x y n : Int) (w : World) (h : IsAr w a b ws c) (hl : ws.length ≤ 1048576) (x1 : x ≤ 9223372036854775807) (y1 : y ≤ 9223372036854775807)
    (hh : hasB ws.length x n = false ∨ hasB ws.length y n = false) :
    Calls Tryz.prog 122 #[arP a, .int .i64 x, .int .i64 y, .int .i64 n] w fun e w' => e = .returned (.int .i64 2) ∧ w = w' := by
  cases hx : hasB ws.length x n
  · clear hh
    go_enter Tryz.func122, Tryz.ntmps122
    go_wp2_with fail
    refine (has_any a b ws c _ _ _ h hl x1).mono ?_
    rintro e w' ⟨rfl, rfl⟩
    go_wp2
    go_ret
    exact ⟨rfl, rfl⟩
  · have hy : hasB ws.length y n = false := by
      rcases hh with e | e
      · rw [hx] at e; cases e
      · exact e
    clear hh
    go_enter Tryz.func122, Tryz.ntmps122
    go_wp2_with fail
    refine (has_any a b ws c _ _ _ h hl x1).mono ?_
    rintro e w' ⟨rfl, rfl⟩
    go_wp2_with fail
    refine (has_any a b ws c _ _ _ h hl y1).mono ?_
    rintro e w' ⟨rfl, rfl⟩
    go_wp2
    go_ret
    exact ⟨rfl, rfl⟩
end Go.Proofs.YthmhehehomieiaaGreat

/- Contract of Copy. -/
namespace Go.Proofs.YthmhehehomieiaaGreat
open Go.RowKit

theorem run_copy_words {P : Program} (w : World) (T ty elem : TypeId) (hu : P.underlying T = some (.slice elem)) (hs : (P.info? elem).map (·.size) = some 1) (b : Nat) (cur : List Value) (t : TypeId) (hg : w.heap[b]? = some (.cells cur.toArray t (0, 0)))
    (dp sp : Option Addr) (dc sc x y n : Nat) (hd : 0 < n → dp = some ⟨b, y, none⟩ ∧ sp = some ⟨b, x, none⟩) (hx : x + n ≤ cur.length) (hy : y + n ≤ cur.length) (h1 : ∀ v ∈ cur, v.oneCell' = true) :
    (Builtin.copy_ #[T, T] ty #[.slice dp n dc, .slice sp n sc]).run P w = .ok (goInt n) (w.setRow b (splice cur y ((cur.drop x).take n)).toArray) := by
  by_cases h0 : n = 0
  · subst h0
    have e : w.setRow b (splice cur y ((cur.drop x).take 0)).toArray = w := by
      have : splice cur y ((cur.drop x).take 0) = cur := by simp [splice]
      rw [this]
      exact setRow_self w b _ t _ hg
    rw [e]
    exact run_copy_none (P := P) w T T ty elem dp sp 0 dc 0 sc hu hs (by simp)
  · obtain ⟨rfl, rfl⟩ := hd (by omega)
    have hlen : ((cur.drop x).take n).length = n := by simp; omega
    have h := run_copy_row (P := P) w T T ty elem b y n dc ⟨b, x, none⟩ n sc cur.toArray t ((cur.drop x).take n) hu hs hg (by rw [hlen]; simp)
      (by
        intro j v hj
        have hjn : j < n := by have := (List.getElem?_eq_some_iff.1 hj).1; rw [hlen] at this; exact this
        have hadd : (⟨b, x, none⟩ : Addr).add j = ⟨b, x + j, none⟩ := by unfold Addr.add; split <;> simp_all
        rw [hadd, cell_of_row w b (x + j) cur.toArray t (0, 0) hg]
        rw [List.getElem?_take, if_pos hjn, List.getElem?_drop] at hj
        simpa using hj)
      (by rw [hlen]; simpa using hy) (fun v hv => h1 v (List.mem_of_mem_drop (List.mem_of_mem_take hv)))
    rw [h, hlen]
    simp only [splice, hlen, List.append_assoc]

theorem Turns.drew {a b : Nat} {ws : List Int} {c : Int} {w w' : World} (h : Turns a b ws c w w') : Turns a b ws c w w'.drew :=
  ⟨⟨h.is.1.drew, h.is.2.drew⟩, h.frm.drew, h.size⟩

set_option maxHeartbeats 2000000 in
theorem copy_pos (a b : Nat) (ws : List Int) (c : Int) (x y n : Nat) (w : World) (h : IsAr w a b ws c) (hl : ws.length ≤ 1048576) (hx : x + n ≤ ws.length) (hy : y + n ≤ ws.length) (hpos : 0 < n) :
    Calls Tryz.prog 122 #[arP a, .int .i64 x, .int .i64 y, .int .i64 n] w fun e w' => e = .returned (.int .i64 0) ∧ Turns a b (splice ws y ((ws.drop x).take n)) (addC c (2 * n)) w w' := by
  have HT := Lib.hid (turns_row h (addC c (2 * n)) y ((ws.drop x).take n) (by simp; omega) _ rfl)
  have hhx : hasB ws.length x n = true := (hasB_iff ..).2 ⟨by omega, by omega, by omega⟩
  have hhy : hasB ws.length y n = true := (hasB_iff ..).2 ⟨by omega, by omega, by omega⟩
  have hn := h.ne
  obtain ⟨c0, c1, f1⟩ := h.cells
  have HX := Lib.hid (has_any a b ws c x n w h hl (by omega))
  have HY := Lib.hid (has_any a b ws c y n w h hl (by omega))
  have HA := (isAr_count h (addC c (2 * n))).2
  have hx' : x + n ≤ (ws.map (Value.int .u64)).length := by simpa using hx
  have hy' : y + n ≤ (ws.map (Value.int .u64)).length := by simpa using hy
  have h1 : ∀ v ∈ ws.map (Value.int .u64), v.oneCell' = true := by intro v hv; obtain ⟨q, _, rfl⟩ := List.mem_map.1 hv; rfl
  rw [List.map_take, List.map_drop] at HT
  unfold u64s at HA
  generalize ws.map (Value.int .u64) = cur at *
  have hcl := Eq.refl ws.length
  obtain ⟨len, hlen⟩ : ∃ len, len = ws.length := ⟨_, rfl⟩
  rw [← hlen] at hl hx hy hhx hhy c0 HX HY
  have HLen := Lib.hid hlen.symm
  clear hlen hcl
  obtain ⟨cs, hcs⟩ : ∃ cs, cs = (cur.drop x).take n := ⟨_, rfl⟩
  have hcp : ∀ dp sp dc sc ty, (0 < n → dp = some ⟨b, y, none⟩ ∧ sp = some ⟨b, x, none⟩) → (Builtin.copy_ #[59, 59] ty #[.slice dp n dc, .slice sp n sc]).run Tryz.prog (w.setCell ⟨a, 1, none⟩ (.int .i64 (addC c (2 * n)))).drew =
      .ok (goInt n) ((w.setCell ⟨a, 1, none⟩ (.int .i64 (addC c (2 * n)))).drew.setRow b (splice cur y cs).toArray) := by
    intro dp sp dc sc ty hd
    rw [hcs]
    exact run_copy_words (P := Tryz.prog) (w.setCell ⟨a, 1, none⟩ (.int .i64 (addC c (2 * n)))).drew 59 ty 51 Tryz.underlying59 (by kernel_rfl) b cur 51 HA dp sp dc sc x y n hd hx' hy' h1
  rw [← hcs] at HT
  have c2 := (isAr_count h (addC c (2 * n))).cells.1
  rw [HLen.out] at c2
  clear hcs HA hx' hy' h1 h HLen
  rw [show addC c (2 * n) = wrap64 (c + 2 * n) from rfl] at HT hcp c2 ⊢
  have q1 : IntKind.i64.wrap ((x : Int) + n) = x + n := IntWalk.i64_in _ (by omega)
  have q2 : IntKind.i64.wrap ((y : Int) + n) = y + n := IntWalk.i64_in _ (by omega)
  have q3 : ((x : Int) + n).toNat = x + n := by omega
  have q4 : ((y : Int) + n).toNat = y + n := by omega
  have q5 : x + n - x = n := by omega
  have q6 : y + n - y = n := by omega
  have Q := Lib.hid (And.intro q1 (And.intro q2 (And.intro q3 (And.intro q4 (And.intro q5 q6)))))
  clear q1 q2 q3 q4 q5 q6
  have hcx : ¬ len = x := by omega
  have hcy : ¬ len = y := by omega
  replace hcp := fun ty => hcp (some ⟨b, y, none⟩) (some ⟨b, x, none⟩) (len - y) (len - x) ty (fun _ => ⟨rfl, rfl⟩)
  have HCP := Lib.hid hcp
  have HC2 := Lib.hid c2
  clear hcp c2
  go_enter Tryz.func122, Tryz.ntmps122
  go_wp2_with fail
  refine HX.out.mono ?_
  rintro e w' ⟨rfl, rfl⟩
  go_wp2_with fail
  refine HY.out.mono ?_
  rintro e w' ⟨rfl, rfl⟩
  go_wp2
  have hcp := HCP.out
  have c2 := HC2.out
  clear HCP HC2
  generalize w.setCell ⟨a, 1, none⟩ (.int .i64 (wrap64 (c + 2 * n))) = w2 at *
  obtain ⟨q1, q2, q3, q4, q5, q6⟩ := Q.out
  go_region
  clear q1 q2 q3 q4 q5 q6
  go_wp2
  go_ret
  exact ⟨rfl, HT.out.drew⟩

set_option maxHeartbeats 2000000 in
theorem copy_zero (a b : Nat) (ws : List Int) (c : Int) (x y : Nat) (w : World) (h : IsAr w a b ws c) (hl : ws.length ≤ 1048576) (hx : x ≤ ws.length) (hy : y ≤ ws.length) :
    Calls Tryz.prog 122 #[arP a, .int .i64 x, .int .i64 y, .int .i64 0] w fun e w' => e = .returned (.int .i64 0) ∧ Turns a b ws (addC c 0) w w' := by
  have HT := Lib.hid (turns_count h (addC c 0))
  have hhx : hasB ws.length x 0 = true := (hasB_iff ..).2 ⟨by omega, by omega, by omega⟩
  have hhy : hasB ws.length y 0 = true := (hasB_iff ..).2 ⟨by omega, by omega, by omega⟩
  have hn := h.ne
  obtain ⟨c0, c1, f1⟩ := h.cells
  have HX := Lib.hid (has_any a b ws c x 0 w h hl (by omega))
  have HY := Lib.hid (has_any a b ws c y 0 w h hl (by omega))
  have c2 := (isAr_count h (addC c 0)).cells.1
  clear h
  generalize ws.length = len at *
  have hcp : ∀ w ty dp sp dc sc, (Builtin.copy_ #[59, 59] ty #[.slice dp 0 dc, .slice sp 0 sc]).run Tryz.prog w = .ok (goInt 0) w := fun w ty dp sp dc sc =>
    run_copy_none (P := Tryz.prog) w 59 59 ty 51 dp sp 0 dc 0 sc Tryz.underlying59 (by kernel_rfl) (by simp)
  rw [show addC c 0 = wrap64 (c + 0) from rfl, Int.add_zero] at HT c2 ⊢
  have HC2 := Lib.hid c2
  clear c2
  go_enter Tryz.func122, Tryz.ntmps122
  go_wp2_with fail
  refine HX.out.mono ?_
  rintro e w' ⟨rfl, rfl⟩
  go_wp2_with fail
  refine HY.out.mono ?_
  rintro e w' ⟨rfl, rfl⟩
  go_wp2
  have c2 := HC2.out
  clear HC2
  generalize w.setCell ⟨a, 1, none⟩ (.int .i64 (wrap64 c)) = w2 at *
  go_region
  all_goals go_wp2
  all_goals
    go_ret
    exact ⟨rfl, HT.out.drew⟩

theorem copy_yes (a b : Nat) (ws : List Int) (c : Int) (x y n : Nat) (w : World) (h : IsAr w a b ws c) (hl : ws.length ≤ 1048576) (hx : x + n ≤ ws.length) (hy : y + n ≤ ws.length) :
    Calls Tryz.prog 122 #[arP a, .int .i64 x, .int .i64 y, .int .i64 n] w fun e w' => e = .returned (.int .i64 0) ∧ Turns a b (splice ws y ((ws.drop x).take n)) (addC c (2 * n)) w w' := by
  by_cases h0 : n = 0
  · subst h0
    have e : splice ws y ((ws.drop x).take 0) = ws := by simp [splice]
    rw [e]
    exact copy_zero a b ws c x y w h hl (by omega) (by omega)
  · exact copy_pos a b ws c x y n w h hl hx hy (by omega)
end Go.Proofs.YthmhehehomieiaaGreat

/- Contracts over Int. -/
namespace Go.Proofs.YthmhehehomieiaaGreat
open Go.RowKit

section
variable (a b : Nat) (ws : List Int) (c : Int) (w : World) (h : IsAr w a b ws c) (hl : ws.length ≤ 1048576)
include h hl
theorem load_at (k x : Int) (h0 : 0 ≤ k) (hx : ws[k.toNat]? = some x) :
    Calls Tryz.prog 28 #[arP a, .int .i64 k] w fun e w' => e = .returned (.tuple #[.int .u64 x, .int .i64 0]) ∧ Turns a b ws (addC c 1) w w' := by
  have := load_yes a b ws c k.toNat x w h hl hx
  rwa [Int.toNat_of_nonneg h0] at this
theorem store_at (k x : Int) (h0 : 0 ≤ k) (hk : k.toNat < ws.length) :
    Calls Tryz.prog 146 #[arP a, .int .i64 k, .int .u64 x] w fun e w' => e = .returned (.int .i64 0) ∧ Turns a b (ws.set k.toNat x) (addC c 1) w w' := by
  have := store_yes a b ws c k.toNat x w h hl hk
  rwa [Int.toNat_of_nonneg h0] at this
theorem zero_at (k n : Int) (h0 : 0 ≤ k) (h1 : 0 ≤ n) (hk : k + n ≤ ws.length) :
    Calls Tryz.prog 126 #[arP a, .int .i64 k, .int .i64 n] w fun e w' => e = .returned (.int .i64 0) ∧ Turns a b (splice ws k.toNat (List.replicate n.toNat 0)) (addC c n) w w' := by
  have := zero_yes a b ws c k.toNat n.toNat w h hl (by omega)
  rwa [Int.toNat_of_nonneg h0, Int.toNat_of_nonneg h1] at this
theorem copy_at (x y n : Int) (h0 : 0 ≤ x) (h1 : 0 ≤ y) (h2 : 0 ≤ n) (hx : x + n ≤ ws.length) (hy : y + n ≤ ws.length) :
    Calls Tryz.prog 122 #[arP a, .int .i64 x, .int .i64 y, .int .i64 n] w fun e w' => e = .returned (.int .i64 0) ∧ Turns a b (splice ws y.toNat ((ws.drop x.toNat).take n.toNat)) (addC c (2 * n)) w w' := by
  have := copy_yes a b ws c x.toNat y.toNat n.toNat w h hl (by omega) (by omega)
  rwa [Int.toNat_of_nonneg h0, Int.toNat_of_nonneg h1, Int.toNat_of_nonneg h2] at this
end

theorem IsAr.to {w : World} {a b : Nat} {ws ws' : List Int} {c c' : Int} (h : IsAr w a b ws c) (e : ws = ws') (f : c = c') : IsAr w a b ws' c' := by subst e f; exact h

/-- What the fresh arena has done stays above what was there. -/
theorem below_turns {W w w' : World} {a b : Nat} {ws : List Int} {c : Int} (hb : Below W.heap.size W w) (t : Turns a b ws c w w') (ha : W.heap.size ≤ a) (hb' : W.heap.size ≤ b) : Below W.heap.size W w' :=
  Below.frm hb t.frm hb.size (fun k hk => by omega)
end Go.Proofs.YthmhehehomieiaaGreat

/- Contracts of the small functions of package head: within, flag, Good. -/
namespace Go.Proofs.YthmhehehomieiaaGreat
open Go.RowKit

def inB (n m : Int) : Bool := decide (0 ≤ n ∧ n ≤ m)

set_option maxHeartbeats 400000 in
theorem within_any (n m : Int) (w : World) :
    Calls Tryz.prog 163 #[.int .i64 n, .int .i64 m] w fun e w' => e = .returned (.bool (inB n m)) ∧ w = w' := by
  by_cases h0 : 0 ≤ n
  · by_cases h1 : n ≤ m
    · go_enter Tryz.func163, Tryz.ntmps163
      go_wp2
      go_ret
      exact ⟨by simp [inB, h0, h1], rfl⟩
    · go_enter Tryz.func163, Tryz.ntmps163
      go_wp2
      go_ret
      exact ⟨by simp [inB, h0, h1], rfl⟩
  · go_enter Tryz.func163, Tryz.ntmps163
    go_wp2
    go_ret
    exact ⟨by rw [show inB n m = false from by unfold inB; exact decide_eq_false (by omega)]; rfl, rfl⟩

def flagI (b : Bool) (n : Int) : Int := if b then n else 0

set_option maxHeartbeats 400000 in
theorem flag_any (b : Bool) (n : Int) (w : World) :
    Calls Tryz.prog 145 #[.bool b, .int .u64 n] w fun e w' => e = .returned (.int .u64 (flagI b n)) ∧ w = w' := by
  cases b
  · go_enter Tryz.func145, Tryz.ntmps145
    go_wp2
    go_ret
    exact ⟨rfl, rfl⟩
  · go_enter Tryz.func145, Tryz.ntmps145
    go_wp2
    go_ret
    exact ⟨rfl, rfl⟩

/-- A head as a value. -/
abbrev hdV (s p a y : Int) (g n o : Bool) : Value := .agg #[.int .i64 s, .int .i64 p, .int .i64 a, .int .i64 y, .bool g, .bool n, .bool o]

def goodB (s p a y : Int) : Bool := inB s 64 && (inB p s && (inB a 7 && inB y 1))

theorem goodB_iff (s p a y : Int) : goodB s p a y = true ↔ 0 ≤ s ∧ s ≤ 64 ∧ 0 ≤ p ∧ p ≤ s ∧ 0 ≤ a ∧ a ≤ 7 ∧ 0 ≤ y ∧ y ≤ 1 := by
  simp only [goodB, inB, Bool.and_eq_true, decide_eq_true_eq]
  constructor
  · rintro ⟨⟨_, _⟩, ⟨_, _⟩, ⟨_, _⟩, _, _⟩; omega
  · rintro ⟨_, _, _, _, _, _, _, _⟩; omega

set_option maxHeartbeats 1000000 in
theorem good_any (s p a y : Int) (g n o : Bool) (w : World) :
    Calls Tryz.prog 144 #[hdV s p a y g n o] w fun e w' => e = .returned (.bool (goodB s p a y)) ∧ Below w.heap.size w w' := by
  unfold goodB
  cases h1 : inB s 64
  case true =>
    cases h2 : inB p s
    case true =>
      cases h3 : inB a 7
      all_goals
        go_enter Tryz.func144, Tryz.ntmps144
        go_wp2_with (go_at_call 163; refine (within_any _ _ _).mono ?_; rintro e w' ⟨rfl, rfl⟩)
        go_ret
        exact ⟨by simp [*], (Below.refl _ _).alloc (Nat.le_refl _) _⟩
    case false =>
      go_enter Tryz.func144, Tryz.ntmps144
      go_wp2_with (go_at_call 163; refine (within_any _ _ _).mono ?_; rintro e w' ⟨rfl, rfl⟩)
      go_ret
      exact ⟨by simp [*], (Below.refl _ _).alloc (Nat.le_refl _) _⟩
  case false =>
    go_enter Tryz.func144, Tryz.ntmps144
    go_wp2_with (go_at_call 163; refine (within_any _ _ _).mono ?_; rintro e w' ⟨rfl, rfl⟩)
    go_ret
    exact ⟨by simp [*], (Below.refl _ _).alloc (Nat.le_refl _) _⟩
end Go.Proofs.YthmhehehomieiaaGreat

/- Plain lemmas on bits of 64-bit words, of no program. -/
namespace Go.Proofs.YthmhehehomieiaaGreat

theorem nat_or_lo (i x c : Nat) (h : x < 2 ^ i) : x ||| (c * 2 ^ i) = x + c * 2 ^ i := by
  rw [Nat.mul_comm, Nat.or_comm, ← Nat.two_pow_add_eq_or_of_lt h, Nat.add_comm]

theorem nat_or_bit (i x b : Nat) (h : x % 2 ^ (i + 1) < 2 ^ i) (hb : b = 0 ∨ b = 2 ^ i) : x ||| b = x + b := by
  rcases hb with rfl | rfl
  · simp
  · have hp : 2 ^ (i + 1) = 2 * 2 ^ i := by rw [Nat.pow_succ]; omega
    have e : x = 2 ^ (i + 1) * (x / 2 ^ (i + 1)) + x % 2 ^ (i + 1) := (Nat.div_add_mod _ _).symm
    generalize x / 2 ^ (i + 1) = q at *
    generalize x % 2 ^ (i + 1) = l at *
    subst e
    have e1 : 2 ^ (i + 1) * q + l = 2 ^ (i + 1) * q ||| l := Nat.two_pow_add_eq_or_of_lt (by omega) q
    have e2 : 2 ^ i * 1 + l = 2 ^ i * 1 ||| l := Nat.two_pow_add_eq_or_of_lt h 1
    have e3 : 2 ^ (i + 1) * q + (2 ^ i * 1 + l) = 2 ^ (i + 1) * q ||| (2 ^ i * 1 + l) := Nat.two_pow_add_eq_or_of_lt (by omega) q
    rw [e1, Nat.or_assoc, Nat.or_comm l, ← Nat.mul_one (2 ^ i), ← e2, ← e3, ← e1]
    omega

theorem pow_cast (i : Nat) (M : Int) (hM : (2 : Int) ^ i = M) : M = ((2 ^ i : Nat) : Int) := by rw [← hM]; simp

theorem or_lo (i : Nat) (M : Int) (hM : (2 : Int) ^ i = M) (x c : Int) (h0 : 0 ≤ x) (h1 : x < M) (hc : 0 ≤ c) (hb : c * M < 18446744073709551616) (hx : x < 18446744073709551616) :
    bits .or .u64 x (c * M) = x + c * M := by
  have hm := pow_cast i M hM
  clear hM
  generalize hq : 2 ^ i = q at hm
  subst hm
  obtain ⟨x, rfl⟩ := Int.eq_ofNat_of_zero_le h0
  obtain ⟨c, rfl⟩ := Int.eq_ofNat_of_zero_le hc
  have e : ((c : Int) * (q : Int)) = ((c * q : Nat) : Int) := by simp
  rw [e] at hb ⊢
  rw [u64_or_nat x (c * q) (by omega) (by omega), ← hq, nat_or_lo i x c (by omega)]
  simp

theorem or_bit (i : Nat) (M : Int) (hM : (2 : Int) ^ i = M) (x b : Int) (h0 : 0 ≤ x) (hx : x < 18446744073709551616) (h : x % (2 * M) < M) (hb : b = 0 ∨ b = M) (hbm : b < 18446744073709551616) :
    bits .or .u64 x b = x + b := by
  have hm := pow_cast i M hM
  clear hM
  generalize hq : 2 ^ i = q at hm
  subst hm
  obtain ⟨x, rfl⟩ := Int.eq_ofNat_of_zero_le h0
  obtain ⟨b, rfl⟩ := Int.eq_ofNat_of_zero_le (show 0 ≤ b by omega)
  rw [u64_or_nat x b (by omega) (by omega), nat_or_bit i x b]
  · simp
  · rw [Nat.pow_succ, hq, Nat.mul_comm]; exact_mod_cast h
  · rw [hq]; omega

theorem or_bit1 (i : Nat) (M : Int) (hM : (2 : Int) ^ i = M) (x B : Int) (h0 : 0 ≤ x) (hx : x < 18446744073709551616) (h : x % (2 * M) < M) (hB0 : 0 ≤ B) (hB1 : B ≤ 1) (hM64 : M < 18446744073709551616) :
    bits .or .u64 x (M * B) = x + M * B := by
  have hB : B = 0 ∨ B = 1 := by omega
  rcases hB with rfl | rfl
  · exact or_bit i M hM x _ h0 hx h (by simp) (by simp)
  · exact or_bit i M hM x _ h0 hx h (by simp) (by simpa using hM64)

theorem nat_and_bit (i x : Nat) : x &&& 2 ^ i = 2 ^ i * (x / 2 ^ i % 2) := by
  apply Nat.eq_of_testBit_eq
  intro j
  rw [Nat.testBit_and, Nat.testBit_two_pow]
  by_cases h : i = j
  · subst h
    rw [Nat.testBit_two_pow_mul]
    simp [Nat.testBit, Nat.shiftRight_eq_div_pow]
  · rw [Nat.testBit_two_pow_mul]
    have : j ≠ i := fun e => h e.symm
    by_cases hj : i ≤ j
    · have h1 : x / 2 ^ i % 2 < 2 ^ (j - i) := Nat.lt_of_lt_of_le (Nat.mod_lt _ (by omega)) (Nat.le_trans (by omega : 2 ≤ 2 ^ 1) (Nat.pow_le_pow_right (by omega) (by omega)))
      simp [h, Nat.testBit_lt_two_pow h1]
    · simp [h, hj]

/-- One bit of a word. -/
def bitB (m x : Int) : Bool := decide (x / m % 2 = 1)

theorem and_bit (i : Nat) (M : Int) (hM : (2 : Int) ^ i = M) (hM64 : M < 18446744073709551616) (x : Int) (h0 : 0 ≤ x) (hx : x < 18446744073709551616) :
    (bits .and .u64 x M != 0) = bitB M x := by
  have hm := pow_cast i M hM
  clear hM
  have hp := Nat.two_pow_pos i
  generalize hq : 2 ^ i = q at hm hp
  subst hm
  obtain ⟨x, rfl⟩ := Int.eq_ofNat_of_zero_le h0
  rw [u64_and_nat x q (by omega) (by omega), ← hq, nat_and_bit, hq]
  have e : ((x : Int) / (q : Int) % 2) = ((x / q % 2 : Nat) : Int) := by simp
  rw [bitB, e]
  rcases Nat.mod_two_eq_zero_or_one (x / q) with h | h <;> rw [h] <;> simp <;> omega

theorem and_mask (i : Nat) (M N : Int) (hM : (2 : Int) ^ i = N) (hN : M + 1 = N) (hM64 : M < 18446744073709551616) (x : Int) (h0 : 0 ≤ x) (hx : x < 18446744073709551616) :
    bits .and .u64 x M = x % N := by
  have hm := pow_cast i N hM
  have hp := Nat.two_pow_pos i
  clear hM
  obtain ⟨x, rfl⟩ := Int.eq_ofNat_of_zero_le h0
  have e : M = ((2 ^ i - 1 : Nat) : Int) := by omega
  have e2 := u64_and_nat x (2 ^ i - 1) (by omega) (by omega)
  rw [e, e2, Nat.and_two_pow_sub_one_eq_mod, hm, Int.natCast_emod]
end Go.Proofs.YthmhehehomieiaaGreat

/- Contract of Pack: what is no head is refused; what is one is its word, a sum of powers of two. -/
namespace Go.Proofs.YthmhehehomieiaaGreat
open Go.RowKit

set_option maxHeartbeats 1000000 in
theorem pack_no (s p a y : Int) (g n o : Bool) (w : World) (h : goodB s p a y = false) :
    Calls Tryz.prog 114 #[hdV s p a y g n o] w fun e w' => e = .returned (.tuple #[.int .u64 0, .bool false]) ∧ Below w.heap.size w w' := by
  go_enter Tryz.func114, Tryz.ntmps114
  go_wp2_with fail
  refine (good_any s p a y g n o _).mono ?_
  rintro e w' ⟨rfl, hg⟩
  go_wp2
  go_ret2
  exact ⟨rfl, below_alloc_trans _ hg⟩

/-- A head's word. -/
def wordI (s p a y : Int) (g n o : Bool) : Int :=
  17592186044416 + s + 65536 * p + 4294967296 * a + 1099511627776 * y + flagI g 2199023255552 + flagI n 4398046511104 + flagI o 8796093022208

theorem flagI_mul (b : Bool) (n : Int) : ∃ B : Int, 0 ≤ B ∧ B ≤ 1 ∧ flagI b n = n * B := by
  cases b
  · exact ⟨0, by omega, by omega, by simp [flagI]⟩
  · exact ⟨1, by omega, by omega, by simp [flagI]⟩

theorem flags_or (L Y G N O : Int) (h0 : 0 ≤ L) (h1 : L < 1099511627776) (y0 : 0 ≤ Y) (y1 : Y ≤ 1) (g0 : 0 ≤ G) (g1 : G ≤ 1) (n0 : 0 ≤ N) (n1 : N ≤ 1) (o0 : 0 ≤ O) (o1 : O ≤ 1) :
    bits .or .u64 (bits .or .u64 (bits .or .u64 (bits .or .u64 (bits .or .u64 L 17592186044416) (1099511627776 * Y)) (2199023255552 * G)) (4398046511104 * N)) (8796093022208 * O) =
      17592186044416 + L + 1099511627776 * Y + 2199023255552 * G + 4398046511104 * N + 8796093022208 * O := by
  have e3 : bits .or .u64 L (17592186044416 * 1) = L + 17592186044416 * 1 := or_bit1 44 17592186044416 (by simp) L 1 (by omega) (by omega) (by omega) (by omega) (by omega) (by omega)
  rw [Int.mul_one] at e3
  rw [e3, or_bit1 40 1099511627776 (by simp) _ Y (by omega) (by omega) (by omega) y0 y1 (by omega),
    or_bit1 41 2199023255552 (by simp) _ G (by omega) (by omega) (by omega) g0 g1 (by omega),
    or_bit1 42 4398046511104 (by simp) _ N (by omega) (by omega) (by omega) n0 n1 (by omega),
    or_bit1 43 8796093022208 (by simp) _ O (by omega) (by omega) (by omega) o0 o1 (by omega)]
  omega

theorem packed (s p a y : Int) (g n o : Bool) (h : goodB s p a y = true) :
    bits .or .u64 (bits .or .u64 (bits .or .u64 (bits .or .u64 (bits .or .u64 (bits .or .u64 (bits .or .u64 s (p * 65536)) (a * 4294967296)) 17592186044416) (flagI (y == 1) 1099511627776)) (flagI g 2199023255552)) (flagI n 4398046511104)) (flagI o 8796093022208) = wordI s p a y g n o := by
  obtain ⟨s0, s1, p0, p1, a0, a1, y0, y1⟩ := (goodB_iff ..).1 h
  have ey : flagI (y == 1) 1099511627776 = 1099511627776 * y := by
    have : y = 0 ∨ y = 1 := by omega
    rcases this with rfl | rfl <;> rfl
  obtain ⟨G, G0, G1, eg⟩ := flagI_mul g 2199023255552
  obtain ⟨N, N0, N1, en⟩ := flagI_mul n 4398046511104
  obtain ⟨O, O0, O1, eo⟩ := flagI_mul o 8796093022208
  unfold wordI
  rw [ey, eg, en, eo]
  clear ey eg en eo h
  rw [or_lo 16 65536 (by simp) s p s0 (by omega) p0 (by omega) (by omega), or_lo 32 4294967296 (by simp) _ a (by omega) (by omega) a0 (by omega) (by omega),
    flags_or _ y G N O (by omega) (by omega) y0 y1 G0 G1 N0 N1 O0 O1]
  omega

theorem ret2_int {k : IntKind} {a b : Int} {v : Value} (h : a = b) : Ending.returned (.tuple #[.int k a, v]) = .returned (.tuple #[.int k b, v]) := by rw [h]

set_option maxHeartbeats 1000000 in
theorem pack_yes (s p a y : Int) (g n o : Bool) (w : World) (h : goodB s p a y = true) :
    Calls Tryz.prog 114 #[hdV s p a y g n o] w fun e w' => e = .returned (.tuple #[.int .u64 (wordI s p a y g n o), .bool true]) ∧ Below w.heap.size w w' := by
  have hp := packed s p a y g n o h
  obtain ⟨s0, s1, p0, p1, a0, a1, y0, y1⟩ := (goodB_iff ..).1 h
  generalize wordI s p a y g n o = W at *
  have HP := Lib.hid hp
  clear hp
  go_enter Tryz.func114, Tryz.ntmps114
  go_wp2_with fail
  refine (good_any s p a y g n o _).mono ?_
  rintro e w' ⟨rfl, hg⟩
  obtain ⟨hc, hf⟩ := kept_cells hg
  go_wp2_with (go_at_call 145; refine (flag_any _ _ _).mono ?_; rintro e w' ⟨rfl, rfl⟩)
  go_ret2
  exact ⟨ret2_int HP.out, below_alloc_trans _ hg⟩
end Go.Proofs.YthmhehehomieiaaGreat

/- Contracts of split and Unpack: the numbers and flags of a word; a head just where packing them again is that word. -/
namespace Go.Proofs.YthmhehehomieiaaGreat
open Go.RowKit

def sS (x : Int) : Int := x % 65536
def sP (x : Int) : Int := x / 65536 % 65536
def sA (x : Int) : Int := x / 4294967296 % 256
def sY (x : Int) : Int := flagI (bitB 1099511627776 x) 1
def sG (x : Int) : Bool := bitB 2199023255552 x
def sN (x : Int) : Bool := bitB 4398046511104 x
def sO (x : Int) : Bool := bitB 8796093022208 x

theorem wrap64_in (n : Int) (h0 : 0 ≤ n) (h1 : n ≤ 65535) : wrap64 n = n := by
  unfold wrap64; omega

set_option maxHeartbeats 1000000 in
theorem split_any (x : Int) (h0 : 0 ≤ x) (h1 : x < 18446744073709551616) (w : World) :
    Calls Tryz.prog 139 #[.int .u64 x] w fun e w' => e = .returned (hdV (sS x) (sP x) (sA x) (sY x) (sG x) (sN x) (sO x)) ∧ Below w.heap.size w w' := by
  have b1 : bits .and .u64 x 65535 = sS x := and_mask 16 65535 65536 (by simp) (by simp) (by simp) x h0 h1
  have b2 : bits .and .u64 (x / 65536) 65535 = sP x := and_mask 16 65535 65536 (by simp) (by simp) (by simp) (x / 65536) (by omega) (by omega)
  have b3 : bits .and .u64 (x / 4294967296) 255 = sA x := and_mask 8 255 256 (by simp) (by simp) (by simp) (x / 4294967296) (by omega) (by omega)
  have b4 : (bits .and .u64 x 1099511627776 != 0) = bitB 1099511627776 x := and_bit 40 _ (by simp) (by simp) x h0 h1
  have b5 : (bits .and .u64 x 2199023255552 != 0) = sG x := and_bit 41 _ (by simp) (by simp) x h0 h1
  have b6 : (bits .and .u64 x 4398046511104 != 0) = sN x := and_bit 42 _ (by simp) (by simp) x h0 h1
  have b7 : (bits .and .u64 x 8796093022208 != 0) = sO x := and_bit 43 _ (by simp) (by simp) x h0 h1
  have c1 : 0 ≤ sS x ∧ sS x ≤ 65535 := by unfold sS; omega
  have c2 : 0 ≤ sP x ∧ sP x ≤ 65535 := by unfold sP; omega
  have c3 : 0 ≤ sA x ∧ sA x ≤ 65535 := by unfold sA; omega
  have w1 := wrap64_in (sS x) c1.1 c1.2
  have w2 := wrap64_in (sP x) c2.1 c2.2
  have w3 := wrap64_in (sA x) c3.1 c3.2
  clear c1 c2 c3
  cases by1 : bitB 1099511627776 x
  · have ey : sY x = 0 := by unfold sY; rw [by1]; rfl
    rw [ey]
    clear ey
    go_enter Tryz.func139, Tryz.ntmps139
    go_wp2
    exact bodyPost_ret (v := hdV (sS x) (sP x) (sA x) 0 (sG x) (sN x) (sO x)) (by simp [results, Tryz.results139, go_sem]) rfl ⟨rfl, ((Below.refl _ _).alloc (Nat.le_refl _) _).alloc (by simp) _⟩
  · have ey : sY x = 1 := by unfold sY; rw [by1]; rfl
    rw [ey]
    clear ey
    go_enter Tryz.func139, Tryz.ntmps139
    go_wp2
    exact bodyPost_ret (v := hdV (sS x) (sP x) (sA x) 1 (sG x) (sN x) (sO x)) (by simp [results, Tryz.results139, go_sem]) rfl ⟨rfl, ((Below.refl _ _).alloc (Nat.le_refl _) _).alloc (by simp) _⟩

/-- Is the word a head's? -/
def isHd (x : Int) : Bool := goodB (sS x) (sP x) (sA x) (sY x) && (wordI (sS x) (sP x) (sA x) (sY x) (sG x) (sN x) (sO x) == x)

/-- The head of a word, or the empty one. -/
abbrev unV (x : Int) : Value := hdV (sS x) (sP x) (sA x) (sY x) (sG x) (sN x) (sO x)
abbrev noV : Value := hdV 0 0 0 0 false false false

theorem below_set7 {w w' : World} {B : Nat} (h : Below B w w') (b : Nat) (hb : B ≤ b) (v0 v1 v2 v3 v4 v5 v6 : Value) :
    Below B w (((((((w'.setCell ⟨b, 0, none⟩ v0).setCell ⟨b, 1, none⟩ v1).setCell ⟨b, 2, none⟩ v2).setCell ⟨b, 3, none⟩ v3).setCell ⟨b, 4, none⟩ v4).setCell ⟨b, 5, none⟩ v5).setCell ⟨b, 6, none⟩ v6) :=
  ((((((h.setCell (p := ⟨b, 0, none⟩) hb v0).setCell (p := ⟨b, 1, none⟩) hb v1).setCell (p := ⟨b, 2, none⟩) hb v2).setCell (p := ⟨b, 3, none⟩) hb v3).setCell (p := ⟨b, 4, none⟩) hb v4).setCell (p := ⟨b, 5, none⟩) hb v5).setCell (p := ⟨b, 6, none⟩) hb v6

set_option maxHeartbeats 1000000 in
theorem unpack_no (x : Int) (h0 : 0 ≤ x) (h1 : x < 18446744073709551616) (w : World) (h : isHd x = false) :
    Calls Tryz.prog 105 #[.int .u64 x] w fun e w' => e = .returned (.tuple #[noV, .bool false]) ∧ Below w.heap.size w w' := by
  unfold isHd at h
  cases hg : goodB (sS x) (sP x) (sA x) (sY x)
  · clear h
    go_enter Tryz.func105, Tryz.ntmps105
    go_wp2_with fail
    refine (split_any x h0 h1 _).mono ?_
    rintro e w1 ⟨rfl, b1⟩
    have k1 := (Blk.new w _ _).keep b1
    go_wp2_with fail
    refine (pack_no _ _ _ _ _ _ _ _ hg).mono ?_
    rintro e w2 ⟨rfl, b2⟩
    obtain ⟨c0, c1, c2, c3, c4, c5, c6, fz⟩ := ((k1.alloc _).keep b2).seven
    go_wp2
    exact bodyPost_ret (v := .tuple #[noV, .bool false]) (by simp [results, Tryz.results105, go_sem, c0, c1, c2, c3, c4, c5, c6]) rfl ⟨rfl, below_set7 (below_trans (below_alloc_trans _ b1) (below_alloc_trans _ b2)) _ (Nat.le_refl _) _ _ _ _ _ _ _⟩
  · have hne : (wordI (sS x) (sP x) (sA x) (sY x) (sG x) (sN x) (sO x) != x) = true := by
      rw [hg] at h
      simpa using h
    clear h
    go_enter Tryz.func105, Tryz.ntmps105
    go_wp2_with fail
    refine (split_any x h0 h1 _).mono ?_
    rintro e w1 ⟨rfl, b1⟩
    have k1 := (Blk.new w _ _).keep b1
    go_wp2_with fail
    refine (pack_yes _ _ _ _ _ _ _ _ hg).mono ?_
    rintro e w2 ⟨rfl, b2⟩
    obtain ⟨c0, c1, c2, c3, c4, c5, c6, fz⟩ := ((k1.alloc _).keep b2).seven
    go_wp2
    exact bodyPost_ret (v := .tuple #[noV, .bool false]) (by simp [results, Tryz.results105, go_sem, c0, c1, c2, c3, c4, c5, c6]) rfl ⟨rfl, below_set7 (below_trans (below_alloc_trans _ b1) (below_alloc_trans _ b2)) _ (Nat.le_refl _) _ _ _ _ _ _ _⟩

set_option maxHeartbeats 1000000 in
theorem unpack_yes (x : Int) (h0 : 0 ≤ x) (h1 : x < 18446744073709551616) (w : World) (h : isHd x = true) :
    Calls Tryz.prog 105 #[.int .u64 x] w fun e w' => e = .returned (.tuple #[unV x, .bool true]) ∧ Below w.heap.size w w' := by
  simp only [isHd, Bool.and_eq_true] at h
  obtain ⟨hg, h⟩ := h
  have hne : (wordI (sS x) (sP x) (sA x) (sY x) (sG x) (sN x) (sO x) != x) = false := by simpa using h
  clear h
  go_enter Tryz.func105, Tryz.ntmps105
  go_wp2_with fail
  refine (split_any x h0 h1 _).mono ?_
  rintro e w1 ⟨rfl, b1⟩
  have k1 := (Blk.new w _ _).keep b1
  go_wp2_with fail
  refine (pack_yes _ _ _ _ _ _ _ _ hg).mono ?_
  rintro e w2 ⟨rfl, b2⟩
  obtain ⟨c0, c1, c2, c3, c4, c5, c6, fz⟩ := ((k1.alloc _).keep b2).seven
  obtain ⟨d0, d1, d2, d3, d4, d5, d6, gz⟩ := ((Blk.new w1 _ _).keep b2).seven
  go_wp2
  exact bodyPost_ret (v := .tuple #[unV x, .bool true]) (by simp [results, Tryz.results105, go_sem, c0, c1, c2, c3, c4, c5, c6]) rfl ⟨rfl, below_set7 (below_trans (below_alloc_trans _ b1) (below_alloc_trans _ b2)) _ (Nat.le_refl _) _ _ _ _ _ _ _⟩

/-- A head's word gives that head back. -/
theorem split_word (s p a y : Int) (g n o : Bool) (h : goodB s p a y = true) :
    sS (wordI s p a y g n o) = s ∧ sP (wordI s p a y g n o) = p ∧ sA (wordI s p a y g n o) = a ∧ sY (wordI s p a y g n o) = y ∧ sG (wordI s p a y g n o) = g ∧ sN (wordI s p a y g n o) = n ∧ sO (wordI s p a y g n o) = o := by
  obtain ⟨s0, s1, p0, p1, a0, a1, y0, y1⟩ := (goodB_iff ..).1 h
  clear h
  have hy : y = 0 ∨ y = 1 := by omega
  unfold sS sP sA sY sG sN sO bitB wordI
  rcases hy with rfl | rfl <;> cases g <;> cases n <;> cases o <;> simp only [flagI, if_true, if_false, Bool.false_eq_true, decide_eq_true_eq, decide_eq_false_iff_not] <;>
    refine ⟨by omega, by omega, by omega, ?_, by omega, by omega, by omega⟩ <;> first | (rw [if_neg (by omega)]) | (rw [if_pos (by omega)])

theorem word_bounds (s p a y : Int) (g n o : Bool) (h : goodB s p a y = true) : 17592186044416 ≤ wordI s p a y g n o ∧ wordI s p a y g n o < 35184372088832 := by
  obtain ⟨s0, s1, p0, p1, a0, a1, y0, y1⟩ := (goodB_iff ..).1 h
  clear h
  unfold wordI
  cases g <;> cases n <;> cases o <;> simp only [flagI, if_true, if_false, Bool.false_eq_true] <;> omega

theorem isHd_word (s p a y : Int) (g n o : Bool) (h : goodB s p a y = true) : isHd (wordI s p a y g n o) = true := by
  obtain ⟨e1, e2, e3, e4, e5, e6, e7⟩ := split_word s p a y g n o h
  unfold isHd
  rw [e1, e2, e3, e4, e5, e6, e7, h]
  simp

theorem isHd_iff (x : Int) : isHd x = true ↔ ∃ s p a y g n o, goodB s p a y = true ∧ wordI s p a y g n o = x := by
  constructor
  · intro h
    simp only [isHd, Bool.and_eq_true, beq_iff_eq] at h
    exact ⟨_, _, _, _, _, _, _, h.1, h.2⟩
  · rintro ⟨s, p, a, y, g, n, o, h, rfl⟩
    exact isHd_word s p a y g n o h
end Go.Proofs.YthmhehehomieiaaGreat

/- Contracts of the document's Good and Word. -/
namespace Go.Proofs.YthmhehehomieiaaGreat
open Go.RowKit


end Go.Proofs.YthmhehehomieiaaGreat

/- Objects in an arena: what a call of package obj may turn; contracts of its small functions. -/
namespace Go.Proofs.YthmhehehomieiaaGreat
open Go.RowKit

/-- Block a is an arena whose words ws lie in block b. -/
def Has (w : World) (a b : Nat) (ws : List Int) : Prop := ∃ c, IsAr w a b ws c

/-- Of what was there only the arena has turned: its words are ws now. -/
structure Now (a b : Nat) (ws : List Int) (w w' : World) : Prop where
  is : Has w' a b ws
  frm : Frm (fun k => k = a ∨ k = b) w w'

section
variable {w w' w'' : World} {a b : Nat} {ws vs : List Int} {c : Int}
theorem Turns.now (t : Turns a b ws c w w') : Now a b ws w w' := ⟨⟨c, t.is⟩, t.frm⟩
theorem Has.keep (h : Has w a b ws) (f : Below w.heap.size w w') : Has w' a b ws := ⟨h.choose, h.choose_spec.keep f⟩
theorem Has.alloc (h : Has w a b ws) (o : Obj) : Has (w.alloc o) a b ws := ⟨h.choose, h.choose_spec.alloc o⟩
theorem Has.now (h : Has w a b ws) (f : Below w.heap.size w w') : Now a b ws w w' := ⟨h.keep f, Frm.of_below f⟩
theorem Has.stay (h : Has w a b ws) : Now a b ws w w := ⟨h, Frm.refl _ _⟩
theorem Now.trans (h : Now a b ws w w') (k : Now a b vs w' w'') : Now a b vs w w'' := ⟨k.is, h.frm.trans k.frm fun _ _ e => e⟩
theorem Now.pre (f : Below w.heap.size w w') (k : Now a b ws w' w'') : Now a b ws w w'' := ⟨k.is, (Frm.of_below f).trans k.frm fun _ _ e => e⟩
theorem Now.post (k : Now a b ws w w') (f : Below w'.heap.size w' w'') : Now a b ws w w'' := ⟨k.is.keep f, k.frm.trans (S' := fun _ => False) (Frm.of_below f) fun _ _ e => e.elim⟩
theorem Now.pre_alloc {o : Obj} (k : Now a b ws (w.alloc o) w'') : Now a b ws w w'' := k.pre ((Below.refl _ w).alloc (Nat.le_refl _) o)
end

def plB (at_ : Int) : Bool := decide (0 ≤ at_) && decide (at_ ≤ 1048576)
def fdB (n : Int) : Bool := decide (0 ≤ n) && decide (n < 64)

theorem plB_yes {x : Int} (h0 : 0 ≤ x) (h1 : x ≤ 1048576) : plB x = true := by simp [plB, h0, h1]
theorem plB_no {x : Int} (h : x < 0 ∨ 1048576 < x) : plB x = false := by
  rw [plB, Bool.and_eq_false_iff, decide_eq_false_iff_not, decide_eq_false_iff_not]; omega
theorem fdB_yes {x : Int} (h0 : 0 ≤ x) (h1 : x < 64) : fdB x = true := by simp [fdB, h0, h1]
theorem fdB_no {x : Int} (h : x < 0 ∨ 64 ≤ x) : fdB x = false := by
  rw [fdB, Bool.and_eq_false_iff, decide_eq_false_iff_not, decide_eq_false_iff_not]; omega

set_option maxHeartbeats 400000 in
theorem isPlace_any (x : Int) (w : World) : Calls Tryz.prog 121 #[.int .i64 x] w fun e w' => e = .returned (.bool (plB x)) ∧ w = w' := by
  unfold plB
  by_cases h0 : 0 ≤ x
  · have e0 : decide (0 ≤ x) = true := decide_eq_true h0
    rw [e0]
    go_enter Tryz.func121, Tryz.ntmps121
    go_wp2
    go_ret
    exact ⟨ret_bool (by simp), rfl⟩
  · have e0 : decide (0 ≤ x) = false := decide_eq_false h0
    rw [e0]
    go_enter Tryz.func121, Tryz.ntmps121
    go_wp2
    go_ret
    exact ⟨rfl, rfl⟩

set_option maxHeartbeats 400000 in
theorem isField_any (x : Int) (w : World) : Calls Tryz.prog 127 #[.int .i64 x] w fun e w' => e = .returned (.bool (fdB x)) ∧ w = w' := by
  unfold fdB
  by_cases h0 : 0 ≤ x
  · have e0 : decide (0 ≤ x) = true := decide_eq_true h0
    rw [e0]
    go_enter Tryz.func127, Tryz.ntmps127
    go_wp2
    go_ret
    exact ⟨ret_bool (by simp), rfl⟩
  · have e0 : decide (0 ≤ x) = false := decide_eq_false h0
    rw [e0]
    go_enter Tryz.func127, Tryz.ntmps127
    go_wp2
    go_ret
    exact ⟨rfl, rfl⟩

set_option maxHeartbeats 400000 in
theorem oWords_any (s p a y : Int) (g n o : Bool) (w : World) (h0 : 0 ≤ s) (h1 : s ≤ 64) :
    Calls Tryz.prog 82 #[hdV s p a y g n o] w fun e w' => e = .returned (.int .i64 (s + 2)) ∧ Below w.heap.size w w' := by
  go_enter Tryz.func82, Tryz.ntmps82
  go_wp2
  go_ret
  exact ⟨rfl, (Below.refl _ _).alloc (Nat.le_refl _) _⟩

/-- The n-th word of the object at a place is there. -/
def InW (len : Nat) (at_ n : Int) : Prop := 0 ≤ at_ ∧ at_ + n < len

theorem wrap_add {x n : Int} (h0 : 0 ≤ x) (h1 : x ≤ 1048576) (n0 : 0 ≤ n) (n1 : n ≤ 65) : IntKind.i64.wrap (x + n) = x + n := IntWalk.i64_in _ (by omega)

set_option maxHeartbeats 1000000 in
theorem oLoad_yes (a b : Nat) (ws : List Int) (w : World) (h : Has w a b ws) (hl : ws.length ≤ 1048576) (at_ n x : Int) (n0 : 0 ≤ n) (n1 : n ≤ 65) (hi : InW ws.length at_ n) (hx : ws[(at_ + n).toNat]? = some x) :
    Calls Tryz.prog 104 #[arP a, .int .i64 at_, .int .i64 n] w fun e w' => e = .returned (.tuple #[.int .u64 x, .int .i64 0]) ∧ Now a b ws w w' := by
  obtain ⟨h0, h1⟩ := hi
  have HX := Lib.hid hx
  have HH := Lib.hid h
  have HL := Lib.hid hl
  have P1 := Lib.hid (plB_yes (x := at_) h0 (by omega))
  have p1 : at_ ≤ 1048576 := by omega
  clear hx h hl h1
  go_enter Tryz.func104, Tryz.ntmps104
  go_wp2_with fail
  refine (isPlace_any _ _).mono ?_
  rintro e w1 ⟨he, rfl⟩
  obtain rfl : e = .returned (.bool true) := he.trans (ret_bool P1.out)
  go_wp2_with fail
  obtain ⟨c, hc⟩ := HH.out
  refine (load_at _ _ _ _ _ hc HL.out (at_ + n) x (by omega) HX.out).mono ?_
  rintro e w1 ⟨rfl, t⟩
  clear hc
  go_wp2
  go_ret2
  exact ⟨rfl, t.now⟩

set_option maxHeartbeats 1000000 in
theorem oLoad_no (a b : Nat) (ws : List Int) (w : World) (h : Has w a b ws) (hl : ws.length ≤ 1048576) (at_ n : Int) (n0 : 0 ≤ n) (n1 : n ≤ 65) (hi : ¬ InW ws.length at_ n) :
    Calls Tryz.prog 104 #[arP a, .int .i64 at_, .int .i64 n] w fun e w' => e = .returned (.tuple #[.int .u64 0, .int .i64 2]) ∧ w = w' := by
  unfold InW at hi
  have HI := Lib.hid hi
  have HH := Lib.hid h
  have HL := Lib.hid hl
  clear h hl hi
  cases P1 : plB at_
  · have P1 := Lib.hid P1
    go_enter Tryz.func104, Tryz.ntmps104
    go_wp2_with fail
    refine (isPlace_any _ _).mono ?_
    rintro e w1 ⟨he, rfl⟩
    obtain rfl : e = .returned (.bool false) := he.trans (ret_bool P1.out)
    go_wp2
    go_ret2
    exact ⟨rfl, rfl⟩
  · have h0 : 0 ≤ at_ ∧ at_ ≤ 1048576 := by simpa [plB] using P1
    have P1 := Lib.hid P1
    obtain ⟨h0, h1⟩ := h0
    go_enter Tryz.func104, Tryz.ntmps104
    go_wp2_with fail
    refine (isPlace_any _ _).mono ?_
    rintro e w1 ⟨he, rfl⟩
    obtain rfl : e = .returned (.bool true) := he.trans (ret_bool P1.out)
    go_wp2_with fail
    obtain ⟨c, hc⟩ := HH.out
    refine (load_no _ _ _ _ (at_ + n) _ hc HL.out (by omega) ((hasB_no ..).2 (by have := HI.out; omega))).mono ?_
    rintro e w1 ⟨rfl, rfl⟩
    clear hc
    go_wp2
    go_ret2
    exact ⟨rfl, rfl⟩

set_option maxHeartbeats 1000000 in
theorem oStore_yes (a b : Nat) (ws : List Int) (w : World) (h : Has w a b ws) (hl : ws.length ≤ 1048576) (at_ n x : Int) (n0 : 0 ≤ n) (n1 : n ≤ 65) (hi : InW ws.length at_ n) :
    Calls Tryz.prog 115 #[arP a, .int .i64 at_, .int .i64 n, .int .u64 x] w fun e w' => e = .returned (.int .i64 0) ∧ Now a b (ws.set (at_ + n).toNat x) w w' := by
  obtain ⟨h0, h1⟩ := hi
  have HH := Lib.hid h
  have HL := Lib.hid hl
  have HI := Lib.hid h1
  have P1 := Lib.hid (plB_yes (x := at_) h0 (by omega))
  have p1 : at_ ≤ 1048576 := by omega
  clear h hl h1
  go_enter Tryz.func115, Tryz.ntmps115
  go_wp2_with fail
  refine (isPlace_any _ _).mono ?_
  rintro e w1 ⟨he, rfl⟩
  obtain rfl : e = .returned (.bool true) := he.trans (ret_bool P1.out)
  go_wp2_with fail
  obtain ⟨c, hc⟩ := HH.out
  refine (store_at _ _ _ _ _ hc HL.out (at_ + n) x (by omega) (by have := HI.out; omega)).mono ?_
  rintro e w1 ⟨rfl, t⟩
  clear hc
  go_wp2
  go_ret
  exact ⟨rfl, t.now⟩

set_option maxHeartbeats 1000000 in
theorem oStore_no (a b : Nat) (ws : List Int) (w : World) (h : Has w a b ws) (hl : ws.length ≤ 1048576) (at_ n x : Int) (n0 : 0 ≤ n) (n1 : n ≤ 65) (hi : ¬ InW ws.length at_ n) :
    Calls Tryz.prog 115 #[arP a, .int .i64 at_, .int .i64 n, .int .u64 x] w fun e w' => e = .returned (.int .i64 2) ∧ w = w' := by
  unfold InW at hi
  have HI := Lib.hid hi
  have HH := Lib.hid h
  have HL := Lib.hid hl
  clear h hl hi
  cases P1 : plB at_
  · have P1 := Lib.hid P1
    go_enter Tryz.func115, Tryz.ntmps115
    go_wp2_with fail
    refine (isPlace_any _ _).mono ?_
    rintro e w1 ⟨he, rfl⟩
    obtain rfl : e = .returned (.bool false) := he.trans (ret_bool P1.out)
    go_wp2
    go_ret
    exact ⟨rfl, rfl⟩
  · have h0 : 0 ≤ at_ ∧ at_ ≤ 1048576 := by simpa [plB] using P1
    have P1 := Lib.hid P1
    obtain ⟨h0, h1⟩ := h0
    go_enter Tryz.func115, Tryz.ntmps115
    go_wp2_with fail
    refine (isPlace_any _ _).mono ?_
    rintro e w1 ⟨he, rfl⟩
    obtain rfl : e = .returned (.bool true) := he.trans (ret_bool P1.out)
    go_wp2_with fail
    obtain ⟨c, hc⟩ := HH.out
    refine (store_no _ _ _ _ (at_ + n) x _ hc HL.out (by omega) ((hasB_no ..).2 (by have := HI.out; omega))).mono ?_
    rintro e w1 ⟨rfl, rfl⟩
    clear hc
    go_wp2
    go_ret
    exact ⟨rfl, rfl⟩
end Go.Proofs.YthmhehehomieiaaGreat

/- Contracts of Way, SetWay, Field, SetField, Head, SetHead. -/
namespace Go.Proofs.YthmhehehomieiaaGreat
open Go.RowKit

section
variable (a b : Nat) (ws : List Int) (w : World) (h : Has w a b ws) (hl : ws.length ≤ 1048576)
include h hl

set_option maxHeartbeats 1000000 in
theorem way_yes (at_ x : Int) (hi : InW ws.length at_ 1) (hx : ws[(at_ + 1).toNat]? = some x) :
    Calls Tryz.prog 118 #[arP a, .int .i64 at_] w fun e w' => e = .returned (.tuple #[.int .i64 (wrap64 x), .int .i64 0]) ∧ Now a b ws w w' := by
  have L := Lib.hid (oLoad_yes a b ws w h hl at_ 1 x (by omega) (by omega) hi hx)
  clear h hl hi hx
  go_enter Tryz.func118, Tryz.ntmps118
  go_wp2_with fail
  refine L.out.mono ?_
  rintro e w1 ⟨rfl, t⟩
  go_wp2
  go_ret2
  exact ⟨rfl, t⟩

set_option maxHeartbeats 1000000 in
theorem way_no (at_ : Int) (hi : ¬ InW ws.length at_ 1) :
    Calls Tryz.prog 118 #[arP a, .int .i64 at_] w fun e w' => e = .returned (.tuple #[.int .i64 0, .int .i64 2]) ∧ w = w' := by
  have L := Lib.hid (oLoad_no a b ws w h hl at_ 1 (by omega) (by omega) hi)
  clear h hl hi
  go_enter Tryz.func118, Tryz.ntmps118
  go_wp2_with fail
  refine L.out.mono ?_
  rintro e w1 ⟨rfl, rfl⟩
  go_wp2
  go_ret2
  exact ⟨rfl, rfl⟩

set_option maxHeartbeats 1000000 in
theorem setWay_yes (at_ to_ : Int) (t0 : 0 ≤ to_) (t1 : to_ ≤ 1048576) (hi : InW ws.length at_ 1) :
    Calls Tryz.prog 124 #[arP a, .int .i64 at_, .int .i64 to_] w fun e w' => e = .returned (.int .i64 0) ∧ Now a b (ws.set (at_ + 1).toNat to_) w w' := by
  have L := Lib.hid (oStore_yes a b ws w h hl at_ 1 to_ (by omega) (by omega) hi)
  have P1 := Lib.hid (plB_yes t0 t1)
  clear h hl hi
  go_enter Tryz.func124, Tryz.ntmps124
  go_wp2_with fail
  refine (isPlace_any _ _).mono ?_
  rintro e w1 ⟨he, rfl⟩
  obtain rfl : e = .returned (.bool true) := he.trans (ret_bool P1.out)
  go_wp2_with fail
  refine L.out.mono ?_
  rintro e w1 ⟨rfl, t⟩
  go_wp2
  go_ret
  exact ⟨rfl, t⟩

set_option maxHeartbeats 1000000 in
theorem setWay_no (at_ to_ : Int) (t0 : 0 ≤ to_) (t1 : to_ ≤ 1048576) (hi : ¬ InW ws.length at_ 1) :
    Calls Tryz.prog 124 #[arP a, .int .i64 at_, .int .i64 to_] w fun e w' => e = .returned (.int .i64 2) ∧ w = w' := by
  have L := Lib.hid (oStore_no a b ws w h hl at_ 1 to_ (by omega) (by omega) hi)
  have P1 := Lib.hid (plB_yes t0 t1)
  clear h hl hi
  go_enter Tryz.func124, Tryz.ntmps124
  go_wp2_with fail
  refine (isPlace_any _ _).mono ?_
  rintro e w1 ⟨he, rfl⟩
  obtain rfl : e = .returned (.bool true) := he.trans (ret_bool P1.out)
  go_wp2_with fail
  refine L.out.mono ?_
  rintro e w1 ⟨rfl, rfl⟩
  go_wp2
  go_ret
  exact ⟨rfl, rfl⟩

set_option maxHeartbeats 1000000 in
theorem field_yes (at_ n x : Int) (n0 : 0 ≤ n) (n1 : n < 64) (hi : InW ws.length at_ (2 + n)) (hx : ws[(at_ + (2 + n)).toNat]? = some x) :
    Calls Tryz.prog 91 #[arP a, .int .i64 at_, .int .i64 n] w fun e w' => e = .returned (.tuple #[.int .u64 x, .int .i64 0]) ∧ Now a b ws w w' := by
  have L := Lib.hid (oLoad_yes a b ws w h hl at_ (2 + n) x (by omega) (by omega) hi hx)
  have P1 := Lib.hid (fdB_yes n0 n1)
  clear h hl hi hx
  go_enter Tryz.func91, Tryz.ntmps91
  go_wp2_with fail
  refine (isField_any _ _).mono ?_
  rintro e w1 ⟨he, rfl⟩
  obtain rfl : e = .returned (.bool true) := he.trans (ret_bool P1.out)
  go_wp2_with fail
  refine L.out.mono ?_
  rintro e w1 ⟨rfl, t⟩
  go_wp2
  go_ret2
  exact ⟨rfl, t⟩

set_option maxHeartbeats 1000000 in
theorem field_no (at_ n : Int) (hi : ¬ (0 ≤ n ∧ n < 64 ∧ InW ws.length at_ (2 + n))) :
    Calls Tryz.prog 91 #[arP a, .int .i64 at_, .int .i64 n] w fun e w' => e = .returned (.tuple #[.int .u64 0, .int .i64 2]) ∧ w = w' := by
  by_cases k : 0 ≤ n ∧ n < 64
  · obtain ⟨n0, n1⟩ := k
    have L := Lib.hid (oLoad_no a b ws w h hl at_ (2 + n) (by omega) (by omega) (fun e => hi ⟨n0, n1, e⟩))
    have P1 := Lib.hid (fdB_yes n0 n1)
    clear h hl hi
    go_enter Tryz.func91, Tryz.ntmps91
    go_wp2_with fail
    refine (isField_any _ _).mono ?_
    rintro e w1 ⟨he, rfl⟩
    obtain rfl : e = .returned (.bool true) := he.trans (ret_bool P1.out)
    go_wp2_with fail
    refine L.out.mono ?_
    rintro e w1 ⟨rfl, rfl⟩
    go_wp2
    go_ret2
    exact ⟨rfl, rfl⟩
  · have P1 := Lib.hid (fdB_no (x := n) (by omega))
    clear h hl hi k
    go_enter Tryz.func91, Tryz.ntmps91
    go_wp2_with fail
    refine (isField_any _ _).mono ?_
    rintro e w1 ⟨he, rfl⟩
    obtain rfl : e = .returned (.bool false) := he.trans (ret_bool P1.out)
    go_wp2
    go_ret2
    exact ⟨rfl, rfl⟩

set_option maxHeartbeats 1000000 in
theorem setField_yes (at_ n x : Int) (n0 : 0 ≤ n) (n1 : n < 64) (hi : InW ws.length at_ (2 + n)) :
    Calls Tryz.prog 94 #[arP a, .int .i64 at_, .int .i64 n, .int .u64 x] w fun e w' => e = .returned (.int .i64 0) ∧ Now a b (ws.set (at_ + (2 + n)).toNat x) w w' := by
  have L := Lib.hid (oStore_yes a b ws w h hl at_ (2 + n) x (by omega) (by omega) hi)
  have P1 := Lib.hid (fdB_yes n0 n1)
  clear h hl hi
  go_enter Tryz.func94, Tryz.ntmps94
  go_wp2_with fail
  refine (isField_any _ _).mono ?_
  rintro e w1 ⟨he, rfl⟩
  obtain rfl : e = .returned (.bool true) := he.trans (ret_bool P1.out)
  go_wp2_with fail
  refine L.out.mono ?_
  rintro e w1 ⟨rfl, t⟩
  go_wp2
  go_ret
  exact ⟨rfl, t⟩

set_option maxHeartbeats 1000000 in
theorem setField_no (at_ n x : Int) (hi : ¬ (0 ≤ n ∧ n < 64 ∧ InW ws.length at_ (2 + n))) :
    Calls Tryz.prog 94 #[arP a, .int .i64 at_, .int .i64 n, .int .u64 x] w fun e w' => e = .returned (.int .i64 2) ∧ w = w' := by
  by_cases k : 0 ≤ n ∧ n < 64
  · obtain ⟨n0, n1⟩ := k
    have L := Lib.hid (oStore_no a b ws w h hl at_ (2 + n) x (by omega) (by omega) (fun e => hi ⟨n0, n1, e⟩))
    have P1 := Lib.hid (fdB_yes n0 n1)
    clear h hl hi
    go_enter Tryz.func94, Tryz.ntmps94
    go_wp2_with fail
    refine (isField_any _ _).mono ?_
    rintro e w1 ⟨he, rfl⟩
    obtain rfl : e = .returned (.bool true) := he.trans (ret_bool P1.out)
    go_wp2_with fail
    refine L.out.mono ?_
    rintro e w1 ⟨rfl, rfl⟩
    go_wp2
    go_ret
    exact ⟨rfl, rfl⟩
  · have P1 := Lib.hid (fdB_no (x := n) (by omega))
    clear h hl hi k
    go_enter Tryz.func94, Tryz.ntmps94
    go_wp2_with fail
    refine (isField_any _ _).mono ?_
    rintro e w1 ⟨he, rfl⟩
    obtain rfl : e = .returned (.bool false) := he.trans (ret_bool P1.out)
    go_wp2
    go_ret
    exact ⟨rfl, rfl⟩

omit hl in
set_option maxHeartbeats 1000000 in
theorem setHead_arg (at_ : Int) (s p q y : Int) (g n o : Bool) (hg : goodB s p q y = false) :
    Calls Tryz.prog 76 #[arP a, .int .i64 at_, hdV s p q y g n o] w fun e w' => e = .returned (.int .i64 1) ∧ Now a b ws w w' := by
  have HH := Lib.hid h
  clear h
  go_enter Tryz.func76, Tryz.ntmps76
  go_wp2_with fail
  refine (pack_no _ _ _ _ _ _ _ _ hg).mono ?_
  rintro e w1 ⟨rfl, b1⟩
  go_wp2
  go_ret
  exact ⟨rfl, HH.out.now (below_alloc_trans _ b1)⟩

set_option maxHeartbeats 1000000 in
theorem setHead_no (at_ : Int) (s p q y : Int) (g n o : Bool) (hg : goodB s p q y = true) (hi : ¬ InW ws.length at_ 0) :
    Calls Tryz.prog 76 #[arP a, .int .i64 at_, hdV s p q y g n o] w fun e w' => e = .returned (.int .i64 2) ∧ Now a b ws w w' := by
  have HH := Lib.hid h
  have HI := Lib.hid hi
  have HL := Lib.hid hl
  have HG := Lib.hid hg
  clear h hl hi hg
  go_enter Tryz.func76, Tryz.ntmps76
  go_wp2_with fail
  refine (pack_yes _ _ _ _ _ _ _ _ HG.out).mono ?_
  rintro e w1 ⟨rfl, b1⟩
  have H1 := Lib.hid ((HH.out.alloc _).keep b1)
  go_wp2_with fail
  refine (oStore_no a b ws _ H1.out HL.out at_ 0 _ (by omega) (by omega) HI.out).mono ?_
  rintro e w2 ⟨rfl, rfl⟩
  go_wp2
  go_ret
  exact ⟨rfl, HH.out.now (below_alloc_trans _ b1)⟩

set_option maxHeartbeats 1000000 in
theorem setHead_yes (at_ : Int) (s p q y : Int) (g n o : Bool) (hg : goodB s p q y = true) (hi : InW ws.length at_ 0) :
    Calls Tryz.prog 76 #[arP a, .int .i64 at_, hdV s p q y g n o] w fun e w' => e = .returned (.int .i64 0) ∧ Now a b (ws.set at_.toNat (wordI s p q y g n o)) w w' := by
  have HH := Lib.hid h
  have HI := Lib.hid hi
  have HL := Lib.hid hl
  have HG := Lib.hid hg
  clear h hl hi hg
  go_enter Tryz.func76, Tryz.ntmps76
  go_wp2_with fail
  refine (pack_yes _ _ _ _ _ _ _ _ HG.out).mono ?_
  rintro e w1 ⟨rfl, b1⟩
  have H1 := Lib.hid ((HH.out.alloc _).keep b1)
  go_wp2_with fail
  refine (oStore_yes a b ws _ H1.out HL.out at_ 0 _ (by omega) (by omega) HI.out).mono ?_
  rintro e w2 ⟨rfl, t⟩
  rw [Int.add_zero] at t
  go_wp2
  go_ret
  exact ⟨rfl, t.pre (below_alloc_trans _ b1)⟩

theorem head_no (at_ : Int) (hi : ¬ InW ws.length at_ 0) :
    Calls Tryz.prog 54 #[arP a, .int .i64 at_] w fun e w' => e = .returned (.tuple #[noV, .int .i64 2]) ∧ Now a b ws w w' := by
  have HH := Lib.hid h
  have L := Lib.hid (oLoad_no a b ws _ (h.alloc (.cells #[.int .i64 0, .int .i64 0, .int .i64 0, .int .i64 0, .bool false, .bool false, .bool false] 93)) hl at_ 0 (by omega) (by omega) hi)
  clear h hl hi
  go_enter Tryz.func54, Tryz.ntmps54
  go_wp2_with fail
  refine L.out.mono ?_
  rintro e w1 ⟨rfl, rfl⟩
  go_wp2
  exact bodyPost_ret (v := .tuple #[noV, .int .i64 2]) (by simp [results, Tryz.results54, go_sem]) rfl ⟨rfl, HH.out.now ((Below.refl _ _).alloc (Nat.le_refl _) _)⟩
end
end Go.Proofs.YthmhehehomieiaaGreat

/- Contracts of Head, Make, Move. -/
namespace Go.Proofs.YthmhehehomieiaaGreat
open Go.RowKit

theorem Has.lt {w : World} {a b : Nat} {ws : List Int} (h : Has w a b ws) : a < w.heap.size ∧ b < w.heap.size := ⟨h.choose_spec.ltA, h.choose_spec.ltB⟩

theorem Now.set {w w' : World} {a b : Nat} {ws : List Int} (t : Now a b ws w w') {p : Addr} (hp : w.heap.size ≤ p.block) (hl : a < w.heap.size ∧ b < w.heap.size) (v : Value) : Now a b ws w (w'.setCell p v) := by
  obtain ⟨c, i1, i2⟩ := t.is
  exact ⟨⟨c, i1.far (by omega) v, i2.far (by omega) v⟩, t.frm.setCell (fun e => absurd hp (by omega)) v⟩

theorem Now.set7 {w w' : World} {a b : Nat} {ws : List Int} (t : Now a b ws w w') (r : Nat) (hp : w.heap.size ≤ r) (hl : a < w.heap.size ∧ b < w.heap.size) (v0 v1 v2 v3 v4 v5 v6 : Value) :
    Now a b ws w (((((((w'.setCell ⟨r, 0, none⟩ v0).setCell ⟨r, 1, none⟩ v1).setCell ⟨r, 2, none⟩ v2).setCell ⟨r, 3, none⟩ v3).setCell ⟨r, 4, none⟩ v4).setCell ⟨r, 5, none⟩ v5).setCell ⟨r, 6, none⟩ v6) :=
  ((((((t.set (p := ⟨r, 0, none⟩) hp hl v0).set (p := ⟨r, 1, none⟩) hp hl v1).set (p := ⟨r, 2, none⟩) hp hl v2).set (p := ⟨r, 3, none⟩) hp hl v3).set (p := ⟨r, 4, none⟩) hp hl v4).set (p := ⟨r, 5, none⟩) hp hl v5).set (p := ⟨r, 6, none⟩) hp hl v6

/-- A block that is none of the arena's. -/
theorem Now.blk {w w' : World} {a b r : Nat} {ws : List Int} {cs : Array Value} {t : TypeId} (n : Now a b ws w w') (k : Blk w r cs t) (ha : r ≠ a) (hb : r ≠ b) : Blk w' r cs t :=
  k.frm n.frm (by omega)

section
variable (a b : Nat) (ws : List Int) (w : World) (h : Has w a b ws) (hl : ws.length ≤ 1048576)
include h hl

set_option maxHeartbeats 1000000 in
theorem head_yes (at_ x : Int) (hi : InW ws.length at_ 0) (hx : ws[at_.toNat]? = some x) (x0 : 0 ≤ x) (x1 : x < 18446744073709551616) (hh : isHd x = true) :
    Calls Tryz.prog 54 #[arP a, .int .i64 at_] w fun e w' => e = .returned (.tuple #[unV x, .int .i64 0]) ∧ Now a b ws w w' := by
  have hlt := Lib.hid h.lt
  have L := Lib.hid (oLoad_yes a b ws _ (h.alloc (.cells #[.int .i64 0, .int .i64 0, .int .i64 0, .int .i64 0, .bool false, .bool false, .bool false] 93)) hl at_ 0 x (by omega) (by omega) hi (by rw [Int.add_zero]; exact hx))
  have HH := Lib.hid hh
  clear h hl hi hx hh
  go_enter Tryz.func54, Tryz.ntmps54
  go_wp2_with fail
  refine L.out.mono ?_
  rintro e w1 ⟨rfl, t1⟩
  have k1 := Lib.hid (t1.blk (Blk.new w _ _) (by have := hlt.out; omega) (by have := hlt.out; omega))
  have T1 := Lib.hid t1.pre_alloc
  clear t1
  go_wp2_with fail
  refine (unpack_yes x x0 x1 _ HH.out).mono ?_
  rintro e w2 ⟨rfl, b2⟩
  have T2 := Lib.hid (T1.out.post b2)
  have k2 := k1.out.keep b2
  clear b2 k1 T1
  obtain ⟨c0, c1, c2, c3, c4, c5, c6, fz⟩ := (k2.alloc (.cells #[.int .i64 (sS x), .int .i64 (sP x), .int .i64 (sA x), .int .i64 (sY x), .bool (sG x), .bool (sN x), .bool (sO x)] 93)).seven
  go_wp2
  exact bodyPost_ret (v := .tuple #[unV x, .int .i64 0]) (by simp [results, Tryz.results54, go_sem, c0, c1, c2, c3, c4, c5, c6]) rfl ⟨rfl, (T2.out.post ((Below.refl _ _).alloc (Nat.le_refl _) _)).set7 _ (Nat.le_refl _) hlt.out _ _ _ _ _ _ _⟩

set_option maxHeartbeats 1000000 in
theorem head_bad (at_ x : Int) (hi : InW ws.length at_ 0) (hx : ws[at_.toNat]? = some x) (x0 : 0 ≤ x) (x1 : x < 18446744073709551616) (hh : isHd x = false) :
    Calls Tryz.prog 54 #[arP a, .int .i64 at_] w fun e w' => e = .returned (.tuple #[noV, .int .i64 1]) ∧ Now a b ws w w' := by
  have hlt := Lib.hid h.lt
  have L := Lib.hid (oLoad_yes a b ws _ (h.alloc (.cells #[.int .i64 0, .int .i64 0, .int .i64 0, .int .i64 0, .bool false, .bool false, .bool false] 93)) hl at_ 0 x (by omega) (by omega) hi (by rw [Int.add_zero]; exact hx))
  have HH := Lib.hid hh
  clear h hl hi hx hh
  go_enter Tryz.func54, Tryz.ntmps54
  go_wp2_with fail
  refine L.out.mono ?_
  rintro e w1 ⟨rfl, t1⟩
  have k1 := Lib.hid (t1.blk (Blk.new w _ _) (by have := hlt.out; omega) (by have := hlt.out; omega))
  have T1 := Lib.hid t1.pre_alloc
  clear t1
  go_wp2_with fail
  refine (unpack_no x x0 x1 _ HH.out).mono ?_
  rintro e w2 ⟨rfl, b2⟩
  have T2 := Lib.hid (T1.out.post b2)
  have k2 := k1.out.keep b2
  clear b2 k1 T1
  obtain ⟨c0, c1, c2, c3, c4, c5, c6, fz⟩ := (k2.alloc (.cells #[.int .i64 0, .int .i64 0, .int .i64 0, .int .i64 0, .bool false, .bool false, .bool false] 93)).seven
  go_wp2
  exact bodyPost_ret (v := .tuple #[noV, .int .i64 1]) (by simp [results, Tryz.results54, go_sem, c0, c1, c2, c3, c4, c5, c6]) rfl ⟨rfl, (T2.out.post ((Below.refl _ _).alloc (Nat.le_refl _) _)).set7 _ (Nat.le_refl _) hlt.out _ _ _ _ _ _ _⟩

set_option maxHeartbeats 1000000 in
theorem begin_yes (at_ x : Int) (hi : InW ws.length at_ 1) :
    Calls Tryz.prog 123 #[arP a, .int .i64 at_, .int .u64 x] w fun e w' => e = .returned (.int .i64 0) ∧ Now a b ((ws.set at_.toNat x).set (at_ + 1).toNat at_) w w' := by
  obtain ⟨h0, h1⟩ := hi
  obtain ⟨c, hc⟩ := h
  have L := Lib.hid (store_at a b ws c w hc hl at_ x h0 (by omega))
  have HL := Lib.hid hl
  have HI := Lib.hid h1
  have p1 := Lib.hid (show at_ ≤ 1048576 by omega)
  clear hc hl h1
  go_enter Tryz.func123, Tryz.ntmps123
  go_wp2_with fail
  refine L.out.mono ?_
  rintro e w1 ⟨rfl, t⟩
  have T := Lib.hid t.now
  clear t
  go_wp2_with fail
  refine (setWay_yes a b _ _ T.out.is (by rw [List.length_set]; exact HL.out) at_ at_ h0 p1.out ⟨h0, by rw [List.length_set]; exact HI.out⟩).mono ?_
  rintro e w2 ⟨rfl, t2⟩
  have T2 := Lib.hid (T.out.trans t2)
  clear t2
  go_wp2
  go_ret
  exact ⟨rfl, T2.out⟩

omit hl in
set_option maxHeartbeats 1000000 in
theorem make_arg (at_ : Int) (s p q y : Int) (g n o : Bool) (hg : goodB s p q y = false) :
    Calls Tryz.prog 87 #[arP a, .int .i64 at_, hdV s p q y g n o] w fun e w' => e = .returned (.int .i64 1) ∧ Now a b ws w w' := by
  have HH := Lib.hid h
  clear h
  go_enter Tryz.func87, Tryz.ntmps87
  go_wp2_with fail
  refine (pack_no _ _ _ _ _ _ _ _ hg).mono ?_
  rintro e w1 ⟨rfl, b1⟩
  go_wp2
  go_ret
  exact ⟨rfl, HH.out.now (below_alloc_trans _ b1)⟩

/-- The words of an object of that size, at a place, are there. -/
def Room (len : Nat) (at_ s : Int) : Prop := 0 ≤ at_ ∧ at_ + (s + 2) ≤ len

set_option maxHeartbeats 1000000 in
theorem make_no (at_ : Int) (s p q y : Int) (g n o : Bool) (hg : goodB s p q y = true) (hi : ¬ Room ws.length at_ s) :
    Calls Tryz.prog 87 #[arP a, .int .i64 at_, hdV s p q y g n o] w fun e w' => e = .returned (.int .i64 2) ∧ Now a b ws w w' := by
  unfold Room at hi
  have HH := Lib.hid h
  have HI := Lib.hid hi
  have HL := Lib.hid hl
  have HG := Lib.hid hg
  have hs := Lib.hid (show 0 ≤ s ∧ s ≤ 64 by have := (goodB_iff ..).1 hg; omega)
  clear h hl hi hg
  cases P1 : plB at_
  · have P1 := Lib.hid P1
    go_enter Tryz.func87, Tryz.ntmps87
    go_wp2_with fail
    refine (pack_yes _ _ _ _ _ _ _ _ HG.out).mono ?_
    rintro e w1 ⟨rfl, b1⟩
    go_wp2_with fail
    refine (isPlace_any _ _).mono ?_
    rintro e w2 ⟨he, rfl⟩
    obtain rfl : e = .returned (.bool false) := he.trans (ret_bool P1.out)
    go_wp2
    go_ret
    exact ⟨rfl, HH.out.now (below_alloc_trans _ b1)⟩
  · have hp := Lib.hid (show 0 ≤ at_ ∧ at_ ≤ 1048576 by simpa [plB] using P1)
    have P1 := Lib.hid P1
    go_enter Tryz.func87, Tryz.ntmps87
    go_wp2_with fail
    refine (pack_yes _ _ _ _ _ _ _ _ HG.out).mono ?_
    rintro e w1 ⟨rfl, b1⟩
    have k1 := (Blk.new w _ _).keep b1
    obtain ⟨c0, c1, c2, c3, c4, c5, c6, fz⟩ := k1.seven
    go_wp2_with fail
    refine (isPlace_any _ _).mono ?_
    rintro e w2 ⟨he, rfl⟩
    obtain rfl : e = .returned (.bool true) := he.trans (ret_bool P1.out)
    go_wp2_with fail
    refine (oWords_any _ _ _ _ _ _ _ _ hs.out.1 hs.out.2).mono ?_
    rintro e w2 ⟨rfl, b2⟩
    clear c0 c1 c2 c3 c4 c5 c6 fz k1
    have B := Lib.hid (below_trans (below_alloc_trans _ b1) b2)
    clear b1 b2
    obtain ⟨c, hc⟩ := HH.out.keep B.out
    have HC := Lib.hid hc
    clear hc
    go_wp2_with fail
    refine (zero_no a b ws c at_ (s + 2) _ HC.out HL.out (by have := hp.out; omega) ((hasB_no ..).2 (by have := HI.out; omega))).mono ?_
    rintro e w3 ⟨rfl, rfl⟩
    go_wp2
    go_ret
    exact ⟨rfl, HH.out.now B.out⟩

/-- What Make leaves. -/
def madeW (ws : List Int) (at_ s x : Int) : List Int := ((splice ws at_.toNat (List.replicate (s + 2).toNat 0)).set at_.toNat x).set (at_ + 1).toNat at_

omit h hl in
theorem splice_len {at_ s : Int} (hs : 0 ≤ s) (hi : Room ws.length at_ s) : (splice ws at_.toNat (List.replicate (s + 2).toNat (0 : Int))).length = ws.length := by
  obtain ⟨h0, h1⟩ := hi
  exact length_splice _ _ _ (by rw [List.length_replicate]; omega)

set_option maxHeartbeats 1000000 in
theorem make_yes (at_ : Int) (s p q y : Int) (g n o : Bool) (hg : goodB s p q y = true) (hi : Room ws.length at_ s) :
    Calls Tryz.prog 87 #[arP a, .int .i64 at_, hdV s p q y g n o] w fun e w' => e = .returned (.int .i64 0) ∧ Now a b (madeW ws at_ s (wordI s p q y g n o)) w w' := by
  have hs := Lib.hid (show 0 ≤ s ∧ s ≤ 64 by have := (goodB_iff ..).1 hg; omega)
  have SL := Lib.hid (splice_len ws hs.out.1 hi)
  obtain ⟨h0, h1⟩ := hi
  have HH := Lib.hid h
  have HI := Lib.hid h1
  have HL := Lib.hid hl
  have HG := Lib.hid hg
  have P1 := Lib.hid (plB_yes (x := at_) h0 (by have := hs.out; omega))
  clear h hl h1 hg
  go_enter Tryz.func87, Tryz.ntmps87
  go_wp2_with fail
  refine (pack_yes _ _ _ _ _ _ _ _ HG.out).mono ?_
  rintro e w1 ⟨rfl, b1⟩
  have k1 := (Blk.new w _ _).keep b1
  obtain ⟨c0, c1, c2, c3, c4, c5, c6, fz⟩ := k1.seven
  go_wp2_with fail
  refine (isPlace_any _ _).mono ?_
  rintro e w2 ⟨he, rfl⟩
  obtain rfl : e = .returned (.bool true) := he.trans (ret_bool P1.out)
  go_wp2_with fail
  refine (oWords_any _ _ _ _ _ _ _ _ hs.out.1 hs.out.2).mono ?_
  rintro e w2 ⟨rfl, b2⟩
  clear c0 c1 c2 c3 c4 c5 c6 fz k1
  have B := Lib.hid (below_trans (below_alloc_trans _ b1) b2)
  clear b1 b2
  obtain ⟨c, hc⟩ := HH.out.keep B.out
  have HC := Lib.hid hc
  clear hc
  go_wp2_with fail
  refine (zero_at a b ws c _ HC.out HL.out at_ (s + 2) h0 (by have := hs.out; omega) HI.out).mono ?_
  rintro e w3 ⟨rfl, t3⟩
  have T3 := Lib.hid (t3.now.pre B.out)
  clear t3 HC
  go_wp2_with fail
  refine (begin_yes a b _ _ T3.out.is (by rw [SL.out]; exact HL.out) at_ _ ⟨h0, by rw [SL.out]; have := HI.out; have := hs.out; omega⟩).mono ?_
  rintro e w4 ⟨rfl, t4⟩
  have T4 := Lib.hid (T3.out.trans t4)
  clear t4
  go_wp2
  go_ret
  exact ⟨rfl, T4.out⟩

omit hl in
set_option maxHeartbeats 1000000 in
theorem move_arg (fr to_ : Int) (s p q y : Int) (g n o : Bool) (hg : goodB s p q y = false) :
    Calls Tryz.prog 84 #[arP a, .int .i64 fr, .int .i64 to_, hdV s p q y g n o] w fun e w' => e = .returned (.int .i64 1) ∧ Now a b ws w w' := by
  have HH := Lib.hid h
  clear h
  go_enter Tryz.func84, Tryz.ntmps84
  go_wp2_with fail
  refine (pack_no _ _ _ _ _ _ _ _ hg).mono ?_
  rintro e w1 ⟨rfl, b1⟩
  go_wp2
  go_ret
  exact ⟨rfl, HH.out.now (below_alloc_trans _ b1)⟩

set_option maxHeartbeats 1000000 in
theorem move_no (fr to_ : Int) (s p q y : Int) (g n o : Bool) (hg : goodB s p q y = true) (hi : ¬ (Room ws.length fr s ∧ Room ws.length to_ s)) :
    Calls Tryz.prog 84 #[arP a, .int .i64 fr, .int .i64 to_, hdV s p q y g n o] w fun e w' => e = .returned (.int .i64 2) ∧ Now a b ws w w' := by
  unfold Room at hi
  have HH := Lib.hid h
  have HI := Lib.hid hi
  have HL := Lib.hid hl
  have HG := Lib.hid hg
  have hs := Lib.hid (show 0 ≤ s ∧ s ≤ 64 by have := (goodB_iff ..).1 hg; omega)
  clear h hl hi hg
  cases P1 : plB fr
  · have P1 := Lib.hid P1
    go_enter Tryz.func84, Tryz.ntmps84
    go_wp2_with fail
    refine (pack_yes _ _ _ _ _ _ _ _ HG.out).mono ?_
    rintro e w1 ⟨rfl, b1⟩
    go_wp2_with fail
    refine (isPlace_any _ _).mono ?_
    rintro e w2 ⟨he, rfl⟩
    obtain rfl : e = .returned (.bool false) := he.trans (ret_bool P1.out)
    go_wp2
    go_ret
    exact ⟨rfl, HH.out.now (below_alloc_trans _ b1)⟩
  · have hp := Lib.hid (show 0 ≤ fr ∧ fr ≤ 1048576 by simpa [plB] using P1)
    have P1 := Lib.hid P1
    cases P2 : plB to_
    · have P2 := Lib.hid P2
      go_enter Tryz.func84, Tryz.ntmps84
      go_wp2_with fail
      refine (pack_yes _ _ _ _ _ _ _ _ HG.out).mono ?_
      rintro e w1 ⟨rfl, b1⟩
      go_wp2_with fail
      refine (isPlace_any _ _).mono ?_
      rintro e w2 ⟨he, rfl⟩
      obtain rfl : e = .returned (.bool true) := he.trans (ret_bool P1.out)
      go_wp2_with fail
      refine (isPlace_any _ _).mono ?_
      rintro e w2 ⟨he, rfl⟩
      obtain rfl : e = .returned (.bool false) := he.trans (ret_bool P2.out)
      go_wp2
      go_ret
      exact ⟨rfl, HH.out.now (below_alloc_trans _ b1)⟩
    · have hq := Lib.hid (show 0 ≤ to_ ∧ to_ ≤ 1048576 by simpa [plB] using P2)
      have P2 := Lib.hid P2
      go_enter Tryz.func84, Tryz.ntmps84
      go_wp2_with fail
      refine (pack_yes _ _ _ _ _ _ _ _ HG.out).mono ?_
      rintro e w1 ⟨rfl, b1⟩
      have k1 := (Blk.new w _ _).keep b1
      obtain ⟨c0, c1, c2, c3, c4, c5, c6, fz⟩ := k1.seven
      go_wp2_with fail
      refine (isPlace_any _ _).mono ?_
      rintro e w2 ⟨he, rfl⟩
      obtain rfl : e = .returned (.bool true) := he.trans (ret_bool P1.out)
      go_wp2_with fail
      refine (isPlace_any _ _).mono ?_
      rintro e w2 ⟨he, rfl⟩
      obtain rfl : e = .returned (.bool true) := he.trans (ret_bool P2.out)
      go_wp2_with fail
      refine (oWords_any _ _ _ _ _ _ _ _ hs.out.1 hs.out.2).mono ?_
      rintro e w2 ⟨rfl, b2⟩
      clear c0 c1 c2 c3 c4 c5 c6 fz k1
      have B := Lib.hid (below_trans (below_alloc_trans _ b1) b2)
      clear b1 b2
      obtain ⟨c, hc⟩ := HH.out.keep B.out
      have HC := Lib.hid hc
      clear hc
      go_wp2_with fail
      refine (copy_no a b ws c fr to_ (s + 2) _ HC.out HL.out (by have := hp.out; omega) (by have := hq.out; omega) (by rw [hasB_no, hasB_no]; have := HI.out; omega)).mono ?_
      rintro e w3 ⟨rfl, rfl⟩
      go_wp2
      go_ret
      exact ⟨rfl, HH.out.now B.out⟩

/-- What Move leaves. -/
def movedW (ws : List Int) (fr to_ s x : Int) : List Int := (((splice ws to_.toNat ((ws.drop fr.toNat).take (s + 2).toNat)).set to_.toNat x).set (to_ + 1).toNat to_).set (fr + 1).toNat to_

omit h hl in
theorem splice_len2 {fr to_ s : Int} (hs : 0 ≤ s) (hi : Room ws.length fr s) (hj : Room ws.length to_ s) : (splice ws to_.toNat ((ws.drop fr.toNat).take (s + 2).toNat)).length = ws.length := by
  obtain ⟨h0, h1⟩ := hi
  obtain ⟨j0, j1⟩ := hj
  exact length_splice _ _ _ (by rw [List.length_take, List.length_drop]; omega)

set_option maxHeartbeats 1000000 in
theorem move_yes (fr to_ : Int) (s p q y : Int) (g n o : Bool) (hg : goodB s p q y = true) (hi : Room ws.length fr s) (hj : Room ws.length to_ s) :
    Calls Tryz.prog 84 #[arP a, .int .i64 fr, .int .i64 to_, hdV s p q y g n o] w fun e w' => e = .returned (.int .i64 0) ∧ Now a b (movedW ws fr to_ s (wordI s p q y g n o)) w w' := by
  have hs := Lib.hid (show 0 ≤ s ∧ s ≤ 64 by have := (goodB_iff ..).1 hg; omega)
  have SL := Lib.hid (splice_len2 ws hs.out.1 hi hj)
  obtain ⟨h0, h1⟩ := hi
  obtain ⟨j0, j1⟩ := hj
  have HH := Lib.hid h
  have HI := Lib.hid h1
  have HJ := Lib.hid j1
  have HL := Lib.hid hl
  have HG := Lib.hid hg
  have P1 := Lib.hid (plB_yes (x := fr) h0 (by have := hs.out; omega))
  have P2 := Lib.hid (plB_yes (x := to_) j0 (by have := hs.out; omega))
  clear h hl h1 hg j1
  go_enter Tryz.func84, Tryz.ntmps84
  go_wp2_with fail
  refine (pack_yes _ _ _ _ _ _ _ _ HG.out).mono ?_
  rintro e w1 ⟨rfl, b1⟩
  have k1 := (Blk.new w _ _).keep b1
  obtain ⟨c0, c1, c2, c3, c4, c5, c6, fz⟩ := k1.seven
  go_wp2_with fail
  refine (isPlace_any _ _).mono ?_
  rintro e w2 ⟨he, rfl⟩
  obtain rfl : e = .returned (.bool true) := he.trans (ret_bool P1.out)
  go_wp2_with fail
  refine (isPlace_any _ _).mono ?_
  rintro e w2 ⟨he, rfl⟩
  obtain rfl : e = .returned (.bool true) := he.trans (ret_bool P2.out)
  go_wp2_with fail
  refine (oWords_any _ _ _ _ _ _ _ _ hs.out.1 hs.out.2).mono ?_
  rintro e w2 ⟨rfl, b2⟩
  clear c0 c1 c2 c3 c4 c5 c6 fz k1
  have B := Lib.hid (below_trans (below_alloc_trans _ b1) b2)
  clear b1 b2
  obtain ⟨c, hc⟩ := HH.out.keep B.out
  have HC := Lib.hid hc
  clear hc
  go_wp2_with fail
  refine (copy_at a b ws c _ HC.out HL.out fr to_ (s + 2) h0 j0 (by have := hs.out; omega) HI.out HJ.out).mono ?_
  rintro e w3 ⟨rfl, t3⟩
  have T3 := Lib.hid (t3.now.pre B.out)
  clear t3 HC
  go_wp2_with fail
  refine (begin_yes a b _ _ T3.out.is (by rw [SL.out]; exact HL.out) to_ _ ⟨j0, by rw [SL.out]; have := HJ.out; have := hs.out; omega⟩).mono ?_
  rintro e w4 ⟨rfl, t4⟩
  have T4 := Lib.hid (T3.out.trans t4)
  clear t4
  go_wp2_with fail
  refine (setWay_yes a b _ _ T4.out.is (by rw [List.length_set, List.length_set, SL.out]; exact HL.out) fr to_ j0 (by have := HJ.out; have := HL.out; have := hs.out; omega) ⟨h0, by rw [List.length_set, List.length_set, SL.out]; have := HI.out; have := hs.out; omega⟩).mono ?_
  rintro e w5 ⟨rfl, t5⟩
  have T5 := Lib.hid (T4.out.trans t5)
  clear t5
  go_wp2
  go_ret
  exact ⟨rfl, T5.out⟩
end
end Go.Proofs.YthmhehehomieiaaGreat

/- Lists, slices as arguments; of no program's own functions. -/
namespace Go.Proofs.YthmhehehomieiaaGreat
open Go.RowKit Go.ChangeShapes Go.WideShapes

theorem getElem?_splice {α : Type} (L : List α) (off : Nat) (cs : List α) (t : Nat) (h : off + cs.length ≤ L.length) :
    (splice L off cs)[t]? = if off ≤ t ∧ t < off + cs.length then cs[t - off]? else L[t]? := by
  unfold splice
  by_cases h1 : t < off
  · rw [if_neg (by omega), List.getElem?_append_left (by simp; omega), List.getElem?_take, if_pos h1]
  · rw [List.getElem?_append_right (by simp; omega)]
    have e : (List.take off L).length = off := by simp; omega
    rw [e]
    by_cases h2 : t < off + cs.length
    · rw [if_pos ⟨by omega, h2⟩, List.getElem?_append_left (by omega)]
    · rw [if_neg (by omega), List.getElem?_append_right (by omega), List.getElem?_drop]
      congr 1
      omega

theorem block_of_add (a : Addr) (n : Nat) : (a.add n).block = a.block := by unfold Addr.add; split <;> rfl

/-- A slice of numbers as it came in: its numbers, nil let in. -/
def Rd (k : IntKind) (w : World) (A : Option Addr) (n : Nat) (xs : List Int) : Prop :=
  xs.length = n ∧ ∀ i x, xs[i]? = some x → ∃ ad, A = some ad ∧ ad.block < w.heap.size ∧ w.cell? (ad.add i) = some (.int k x)

theorem Rd.at_ {k : IntKind} {w w' : World} {A : Option Addr} {n : Nat} {xs : List Int} (h : Rd k w A n xs) (hb : Below w.heap.size w w') {i : Nat} (hi : i < n) :
    ∃ ad x, A = some ad ∧ xs[i]? = some x ∧ w'.cell? (ad.add i) = some (.int k x) := by
  have hx := List.getElem?_eq_getElem (l := xs) (i := i) (by have := h.1; omega)
  obtain ⟨ad, e, hl, hc⟩ := h.2 i _ hx
  exact ⟨ad, _, e, hx, (hb.cell (p := ad.add i) (by rw [block_of_add]; exact hl)).trans hc⟩

theorem Rd.take {k : IntKind} {w : World} {A : Option Addr} {n : Nat} {xs : List Int} (h : Rd k w A n xs) (m : Nat) (hm : m ≤ n) : Rd k w A m (xs.take m) := by
  refine ⟨by rw [List.length_take, h.1]; omega, fun i x hx => ?_⟩
  rw [List.getElem?_take] at hx
  split at hx
  · exact h.2 i x hx
  · cases hx

theorem cell_lt {w : World} {p : Addr} {v : Value} (h : w.cell? p = some v) : p.block < w.heap.size := by
  rcases Nat.lt_or_ge p.block w.heap.size with hlt | hge
  · exact hlt
  · unfold World.cell? at h
    rw [Array.getElem?_eq_none hge] at h
    simp at h

theorem open_rd {H : Type} {enc : TypeId × Value → H} {P : Program} {w : World} {r : Reach} {b0 : Nat} {t e : TypeId} {k : IntKind} {v : Value} {d : DataW H} {ps : List MemPlace}
    (ht : P.underlying t = some (.slice e)) (he : P.underlying e = some (.int k)) (hc : P.cellsOf e = 1) (hv : Value.okWide P w r b0 t v) (h : DataW.Trod enc P w 0 (fun _ => true) true t v d ps) :
    ∃ A n c xs, v = .slice A n c ∧ n ≤ c ∧ c ≤ maxLen ∧ Rd k w A n xs ∧ ∀ x ∈ xs, (Lit.int k x).wf = true := by
  obtain ⟨A, n, c, rfl⟩ := okWide_slice ht hv
  obtain ⟨fuel, hf⟩ := h
  rcases open_ints ht he hc hf with ⟨h0, _⟩ | ⟨a, len, cap, zs, h0, _, hl, hm, hz, hx, hcell, hwf⟩
  · simp [Value.cells] at h0
    obtain ⟨rfl, rfl, rfl⟩ := h0
    exact ⟨none, 0, 0, [], rfl, Nat.le_refl _, Nat.zero_le _, ⟨rfl, fun i x hx => by simp at hx⟩, fun x hx => by simp at hx⟩
  · simp [Value.cells] at h0
    obtain ⟨rfl, rfl, rfl⟩ := h0
    simp only [if_true] at hz
    refine ⟨some a, n, c, zs.take n, rfl, hl, hm, ⟨by rw [List.length_take]; omega, fun i x hxi => ?_⟩, fun x hxm => hwf x (List.mem_of_mem_take hxm)⟩
    rw [List.getElem?_take] at hxi
    split at hxi
    · rename_i hin
      have hcl : w.cell? (a.add i) = some (.int k x) := by
        have := hcell i (by omega)
        rw [this, List.getD, hxi]; rfl
      exact ⟨a, rfl, by have := cell_lt hcl; rwa [block_of_add] at this, hcl⟩
    · cases hxi
end Go.Proofs.YthmhehehomieiaaGreat

/- The words of a heap's objects. Of lists and heads alone. -/
namespace Go.Proofs.YthmhehehomieiaaGreat
namespace Gc
open Go.RowKit

def Ob.n (o : Ob) : Nat := o.rs.length + o.ss.length
def Ob.sz (o : Ob) : Nat := o.n + 2
def Ob.word (o : Ob) (old : Bool) : Int := wordI (o.n : Nat) o.rs.length o.age o.par o.grey o.noted old

/-- An object stands at p. -/
structure ObAt (ws : List Int) (p : Int) (o : Ob) (old : Bool) : Prop where
  fit : p.toNat + o.sz ≤ ws.length
  head : ws[p.toNat]? = some (o.word old)
  way : ws[p.toNat + 1]? = some o.way
  body : ∀ k v, (o.rs ++ o.ss)[k]? = some v → ws[p.toNat + 2 + k]? = some v
  good : goodB (o.n : Nat) o.rs.length o.age o.par = true

theorem ObAt.frm {ws vs : List Int} {p : Int} {o : Ob} {old : Bool} (h : ObAt ws p o old) (hl : vs.length = ws.length) (hs : ∀ j, p.toNat ≤ j → j < p.toNat + o.sz → vs[j]? = ws[j]?) : ObAt vs p o old where
  fit := by rw [hl]; exact h.fit
  head := by rw [hs _ (Nat.le_refl _) (by unfold Ob.sz; omega)]; exact h.head
  way := by rw [hs _ (by omega) (by unfold Ob.sz; omega)]; exact h.way
  body := fun k v e => by
    have := (List.getElem?_eq_some_iff.1 e).1
    rw [List.length_append] at this
    rw [hs _ (by omega) (by unfold Ob.sz Ob.n; omega)]
    exact h.body k v e
  good := h.good

/-- All of them. -/
structure Lies (ws : List Int) (A : Hp) : Prop where
  at_ : ∀ p o, A.ob p = some o → ObAt ws p o (decide (p ∈ A.O))
  pos : ∀ p o, A.ob p = some o → 0 < p
  apart : ∀ p q o v, A.ob p = some o → A.ob q = some v → p ≠ q → p.toNat + o.sz ≤ q.toNat ∨ q.toNat + v.sz ≤ p.toNat

theorem goodB_of {o : Ob} {g y : Int} (h : goodB (o.n : Nat) o.rs.length o.age o.par = true) (g0 : 0 ≤ g) (g1 : g ≤ 7) (y0 : 0 ≤ y) (y1 : y ≤ 1) : goodB (o.n : Nat) o.rs.length g y = true := by
  rw [goodB_iff] at h ⊢
  omega

section
variable {ws vs : List Int} {A : Hp}

/-- One object has been written to. -/
theorem Lies.put (h : Lies ws A) {p : Int} {o o' : Ob} (ho : A.ob p = some o) (hl : vs.length = ws.length) (hs : ∀ j, j < p.toNat ∨ p.toNat + o.sz ≤ j → vs[j]? = ws[j]?) (hz : o'.sz = o.sz)
    (ha : ObAt vs p o' (decide (p ∈ A.O))) : Lies vs (A.put p o') := by
  have ob : ∀ u v, (A.put p o').ob u = some v → (u = p ∧ v = o') ∨ (u ≠ p ∧ A.ob u = some v) := fun u v e => by
    have e : upd A.ob p o' u = some v := e
    unfold upd at e
    split at e
    · cases e; exact .inl ⟨‹_›, rfl⟩
    · exact .inr ⟨‹_›, e⟩
  refine ⟨fun u v e => ?_, fun u v e => ?_, fun u t v y e1 e2 n => ?_⟩
  · rcases ob u v e with ⟨rfl, rfl⟩ | ⟨n, e⟩
    · exact ha
    · exact (h.at_ u v e).frm hl fun j h1 h2 => hs j (by have := h.apart u p v o e ho n; omega)
  · rcases ob u v e with ⟨rfl, rfl⟩ | ⟨n, e⟩
    · exact h.pos _ _ ho
    · exact h.pos _ _ e
  · rcases ob u v e1 with ⟨rfl, rfl⟩ | ⟨n1, k1⟩ <;> rcases ob t y e2 with ⟨rfl, rfl⟩ | ⟨n2, k2⟩
    · exact absurd rfl n
    · rw [hz]; exact h.apart _ _ _ _ ho k2 n
    · rw [hz]; exact h.apart _ _ _ _ k1 ho n
    · exact h.apart _ _ _ _ k1 k2 n

theorem get_set {n : Nat} {x : Int} (hn : n < ws.length) (j : Nat) : (ws.set n x)[j]? = if j = n then some x else ws[j]? := by
  rw [List.getElem?_set]
  by_cases e : n = j
  · subst e; simp [hn]
  · rw [if_neg e, if_neg (Ne.symm e)]

/-- The head of an object is written. -/
theorem Lies.head (h : Lies ws A) {p : Int} {o : Ob} (ho : A.ob p = some o) (g y : Int) (f1 f2 : Bool) (g0 : 0 ≤ g) (g1 : g ≤ 7) (y0 : 0 ≤ y) (y1 : y ≤ 1) :
    Lies (ws.set p.toNat (wordI (o.n : Nat) o.rs.length g y f1 f2 (decide (p ∈ A.O)))) (A.put p { o with age := g, par := y, grey := f1, noted := f2 }) := by
  have z := h.at_ p o ho
  have fit := z.fit
  have s2 : 2 ≤ o.sz := by unfold Ob.sz; omega
  have gs := fun x j => get_set (ws := ws) (n := p.toNat) (x := x) (by omega) j
  refine h.put ho (by simp) (fun j hj => ?_) rfl ⟨by rw [List.length_set]; exact fit, ?_, ?_, fun k v e => ?_, goodB_of (o := o) z.good g0 g1 y0 y1⟩
  · rw [gs, if_neg (by omega)]
  · rw [gs, if_pos rfl]; rfl
  · rw [gs, if_neg (by omega)]; exact z.way
  · rw [gs, if_neg (by omega)]; exact z.body k v e

/-- A reference of an object is written. -/
theorem Lies.refer (h : Lies ws A) {p : Int} {o : Ob} (ho : A.ob p = some o) (n : Nat) (hn : n < o.rs.length) (r : Int) :
    Lies (ws.set (p.toNat + 2 + n) r) (A.put p { o with rs := o.rs.set n r }) := by
  have z := h.at_ p o ho
  have fit := z.fit
  have e0 : o.sz = o.rs.length + o.ss.length + 2 := rfl
  have gs := fun x j => get_set (ws := ws) (n := p.toNat + 2 + n) (x := x) (by omega) j
  have en : ({ o with rs := o.rs.set n r } : Ob).n = o.n := by simp [Ob.n]
  have el : (o.rs.set n r).length = o.rs.length := List.length_set
  refine h.put ho (by simp) (fun j hj => ?_) (by unfold Ob.sz; rw [en]) ⟨by simpa [Ob.sz, en] using fit, ?_, ?_, fun k v e => ?_, by rw [en]; simp only [el]; exact z.good⟩
  · rw [gs, if_neg (by omega)]
  · rw [gs, if_neg (by omega)]
    unfold Ob.word
    rw [en]
    simp only [el]
    exact z.head
  · rw [gs, if_neg (by omega)]; exact z.way
  · rw [gs]
    have e : ((o.rs.set n r) ++ o.ss)[k]? = some v := e
    by_cases hk : k = n
    · subst hk
      rw [List.getElem?_append_left (by omega), List.getElem?_set_self hn] at e
      cases e
      rw [if_pos rfl]
    · rw [if_neg (by omega)]
      refine z.body k v ?_
      by_cases hk2 : k < o.rs.length
      · rw [List.getElem?_append_left (by omega), List.getElem?_set_ne (Ne.symm hk)] at e
        rw [List.getElem?_append_left hk2]; exact e
      · rw [List.getElem?_append_right (by omega), el] at e
        rw [List.getElem?_append_right (by omega)]; exact e

/-- A scalar of an object is written. -/
theorem Lies.scalar (h : Lies ws A) {p : Int} {o : Ob} (ho : A.ob p = some o) (n : Nat) (hn : n < o.ss.length) (r : Int) :
    Lies (ws.set (p.toNat + 2 + (o.rs.length + n)) r) (A.put p { o with ss := o.ss.set n r }) := by
  have z := h.at_ p o ho
  have fit := z.fit
  have e0 : o.sz = o.rs.length + o.ss.length + 2 := rfl
  have gs := fun x j => get_set (ws := ws) (n := p.toNat + 2 + (o.rs.length + n)) (x := x) (by omega) j
  have en : ({ o with ss := o.ss.set n r } : Ob).n = o.n := by simp [Ob.n]
  refine h.put ho (by simp) (fun j hj => ?_) (by unfold Ob.sz; rw [en]) ⟨by simpa [Ob.sz, en] using fit, ?_, ?_, fun k v e => ?_, by rw [en]; exact z.good⟩
  · rw [gs, if_neg (by omega)]
  · rw [gs, if_neg (by omega)]
    unfold Ob.word
    rw [en]
    exact z.head
  · rw [gs, if_neg (by omega)]; exact z.way
  · rw [gs]
    have e : (o.rs ++ (o.ss.set n r))[k]? = some v := e
    by_cases hk2 : k < o.rs.length
    · rw [if_neg (by omega)]
      refine z.body k v ?_
      rw [List.getElem?_append_left hk2] at e ⊢
      exact e
    · rw [List.getElem?_append_right (by omega)] at e
      by_cases hk : k - o.rs.length = n
      · rw [hk, List.getElem?_set_self hn] at e
        cases e
        rw [if_pos (by omega)]
      · rw [if_neg (by omega)]
        refine z.body k v ?_
        rw [List.getElem?_set_ne (Ne.symm hk)] at e
        rw [List.getElem?_append_right (by omega)]; exact e

/-- One object more; what stood there was none's. -/
theorem Lies.more (h : Lies ws A) {B : Hp} {q : Int} {o : Ob} {old : Bool} (q0 : 0 < q) (hob : ∀ u v, B.ob u = some v → (u = q ∧ v = o) ∨ (u ≠ q ∧ A.ob u = some v)) (hO : ∀ u, u ≠ q → (u ∈ B.O ↔ u ∈ A.O)) (hq : decide (q ∈ B.O) = old)
    (far : ∀ u v, A.ob u = some v → u.toNat + v.sz ≤ q.toNat ∨ q.toNat + o.sz ≤ u.toNat) (hl : vs.length = ws.length) (hs : ∀ j, j < q.toNat ∨ q.toNat + o.sz ≤ j → vs[j]? = ws[j]?) (ha : ObAt vs q o old) : Lies vs B := by
  refine ⟨fun u v e => ?_, fun u v e => ?_, fun u t v y e1 e2 n => ?_⟩
  · rcases hob u v e with ⟨rfl, rfl⟩ | ⟨n, e⟩
    · rw [hq]; exact ha
    · have : decide (u ∈ B.O) = decide (u ∈ A.O) := decide_eq_decide.2 (hO u n)
      rw [this]
      exact (h.at_ u v e).frm hl fun j h1 h2 => hs j (by have := far u v e; omega)
  · rcases hob u v e with ⟨rfl, rfl⟩ | ⟨n, e⟩
    · exact q0
    · exact h.pos _ _ e
  · rcases hob u v e1 with ⟨rfl, rfl⟩ | ⟨n1, k1⟩ <;> rcases hob t y e2 with ⟨rfl, rfl⟩ | ⟨n2, k2⟩
    · exact absurd rfl n
    · exact (far _ _ k2).symm
    · exact far _ _ k1
    · exact h.apart _ _ _ _ k1 k2 n
end
end Gc
end Go.Proofs.YthmhehehomieiaaGreat

/- The words of an object that has moved, and of one that was made. Of lists and heads alone. -/
namespace Go.Proofs.YthmhehehomieiaaGreat
namespace Gc
open Go.RowKit

theorem splice_get {L cs : List Int} {off : Nat} (h : off + cs.length ≤ L.length) (j : Nat) : (splice L off cs)[j]? = if off ≤ j ∧ j < off + cs.length then cs[j - off]? else L[j]? := getElem?_splice L off cs j h

theorem take_len {ws : List Int} {p n : Nat} (h : p + n ≤ ws.length) : ((ws.drop p).take n).length = n := by rw [List.length_take, List.length_drop]; omega

/-- The words behind a move. -/
theorem moved_get {ws : List Int} {p q : Int} {n : Nat} {x : Int} (p0 : 0 < p) (q0 : 0 < q) (hp : p.toNat + (n + 2) ≤ ws.length) (hq : q.toNat + (n + 2) ≤ ws.length) :
    (movedW ws p q (n : Nat) x).length = ws.length ∧ ∀ j, (movedW ws p q (n : Nat) x)[j]? = if j = p.toNat + 1 then some q else if j = q.toNat + 1 then some q else if j = q.toNat then some x else if q.toNat ≤ j ∧ j < q.toNat + (n + 2) then ws[p.toNat + (j - q.toNat)]? else ws[j]? := by
  have en : ((n : Int) + 2).toNat = n + 2 := by omega
  have ep : (p + 1).toNat = p.toNat + 1 := by omega
  have eq : (q + 1).toNat = q.toNat + 1 := by omega
  have tl := take_len (ws := ws) (p := p.toNat) (n := n + 2) hp
  have sl : (splice ws q.toNat ((ws.drop p.toNat).take (n + 2))).length = ws.length := length_splice _ _ _ (by rw [tl]; exact hq)
  have el : (movedW ws p q (n : Nat) x).length = ws.length := by
    unfold movedW
    rw [List.length_set, List.length_set, List.length_set, en, sl]
  refine ⟨el, fun j => ?_⟩
  unfold movedW
  rw [en, ep, eq, get_set (by rw [List.length_set, List.length_set, sl]; omega), get_set (by rw [List.length_set, sl]; omega), get_set (by rw [sl]; omega), splice_get (by rw [tl]; exact hq), tl]
  by_cases e : q.toNat ≤ j ∧ j < q.toNat + (n + 2)
  · rw [if_pos e, if_pos e, List.getElem?_take_of_lt (by omega), List.getElem?_drop]
  · rw [if_neg e, if_neg e]

theorem made_get {ws : List Int} {q : Int} {n : Nat} {x : Int} (q0 : 0 < q) (hq : q.toNat + (n + 2) ≤ ws.length) :
    (madeW ws q (n : Nat) x).length = ws.length ∧ ∀ j, (madeW ws q (n : Nat) x)[j]? = if j = q.toNat + 1 then some q else if j = q.toNat then some x else if q.toNat ≤ j ∧ j < q.toNat + (n + 2) then some 0 else ws[j]? := by
  have en : ((n : Int) + 2).toNat = n + 2 := by omega
  have eq : (q + 1).toNat = q.toNat + 1 := by omega
  have tl : (List.replicate (n + 2) (0 : Int)).length = n + 2 := List.length_replicate
  have sl : (splice ws q.toNat (List.replicate (n + 2) 0)).length = ws.length := length_splice _ _ _ (by rw [tl]; exact hq)
  have el : (madeW ws q (n : Nat) x).length = ws.length := by
    unfold madeW
    rw [List.length_set, List.length_set, en, sl]
  refine ⟨el, fun j => ?_⟩
  unfold madeW
  rw [en, eq, get_set (by rw [List.length_set, sl]; omega), get_set (by rw [sl]; omega), splice_get (by rw [tl]; exact hq), tl]
  by_cases e : q.toNat ≤ j ∧ j < q.toNat + (n + 2)
  · have er : (List.replicate (n + 2) (0 : Int))[j - q.toNat]? = some 0 := by rw [List.getElem?_replicate, if_pos (by omega)]
    rw [if_pos e, if_pos e, er]
  · rw [if_neg e, if_neg e]

section
variable {ws : List Int} {A : Hp} {x : Int}

theorem Lies.left (h : Lies ws A) {p q : Int} {o o' : Ob} {old : Bool} (ho : A.ob p = some o) (hE : p ∉ A.O) (hq : A.ob q = none) (hqO : q ∉ A.O) (q0 : 0 < q) (fit : q.toNat + o.sz ≤ ws.length)
    (far : ∀ u v, A.ob u = some v → u.toNat + v.sz ≤ q.toNat ∨ q.toNat + o.sz ≤ u.toNat) (g0 : 0 ≤ o'.age) (g1 : o'.age ≤ 7) (y0 : 0 ≤ o'.par) (y1 : o'.par ≤ 1) :
    Lies (movedW ws p q (o.n : Nat) (wordI (o.n : Nat) o.rs.length o'.age o'.par o'.grey false old)) (A.left p q o o' old) := by
  have z := h.at_ p o ho
  have p0 := h.pos p o ho
  have pf := z.fit
  have pq := far p o ho
  have e0 : o.sz = o.n + 2 := rfl
  have np : p ≠ q := fun e => by subst e; rw [hq] at ho; cases ho
  obtain ⟨ml, mg⟩ := moved_get (ws := ws) (x := wordI (o.n : Nat) o.rs.length o'.age o'.par o'.grey false old) p0 q0 pf fit
  generalize movedW ws p q (o.n : Nat) (wordI (o.n : Nat) o.rs.length o'.age o'.par o'.grey false old) = vs at ml mg
  have gs := fun x j => get_set (ws := ws) (n := p.toNat + 1) (x := x) (by omega) j
  -- first the elder one's way
  have k : Lies (ws.set (p.toNat + 1) q) (A.put p { o with way := q }) := by
    refine h.put ho (by simp) (fun j hj => by rw [gs, if_neg (by omega)]) rfl ⟨by rw [List.length_set]; exact pf, ?_, ?_, fun i v e => ?_, z.good⟩
    · rw [gs, if_neg (by omega)]; exact z.head
    · rw [gs, if_pos rfl]
    · rw [gs, if_neg (by omega)]; exact z.body i v e
  have mob : ∀ y, (A.put p { o with way := q }).ob y = upd A.ob p { o with way := q } y := fun _ => rfl
  refine k.more (q := q) (o := { o' with way := q, noted := false, rs := o.rs, ss := o.ss }) (old := old) q0 (fun u v e => ?_) (fun u n => ?_) ?_ (fun u v e => ?_) (by rw [List.length_set]; exact ml) (fun j hj => ?_) ?_
  · have e : upd (upd A.ob p { o with way := q }) q { o' with way := q, noted := false, rs := o.rs, ss := o.ss } u = some v := e
    by_cases n : u = q
    · subst n; rw [upd_self] at e; cases e; exact .inl ⟨rfl, rfl⟩
    · rw [upd_ne n] at e; exact .inr ⟨n, e⟩
  · show u ∈ (if old then A.O ++ [q] else A.O) ↔ u ∈ A.O
    cases old <;> simp [n]
  · show decide (q ∈ (if old then A.O ++ [q] else A.O)) = old
    cases old <;> simp [hqO]
  · rw [mob] at e
    by_cases n : u = p
    · subst n; rw [upd_self] at e; cases e
      exact pq
    · rw [upd_ne n] at e; exact far u v e
  · have hj : j < q.toNat ∨ q.toNat + o.sz ≤ j := hj
    rw [mg, gs]
    by_cases e : j = p.toNat + 1
    · rw [if_pos e, if_pos e]
    · rw [if_neg e, if_neg e, if_neg (by omega), if_neg (by omega), if_neg (by omega)]
  · refine ⟨by rw [ml]; exact fit, ?_, ?_, fun i v e => ?_, goodB_of (o := o) z.good g0 g1 y0 y1⟩
    · rw [mg, if_neg (by omega), if_neg (by omega), if_pos rfl]; rfl
    · rw [mg]
      split
      · rfl
      · rw [if_pos rfl]
    · have e : (o.rs ++ o.ss)[i]? = some v := e
      have hi := (List.getElem?_eq_some_iff.1 e).1
      rw [List.length_append] at hi
      have e1 : o.n = o.rs.length + o.ss.length := rfl
      rw [mg, if_neg (by omega), if_neg (by omega), if_neg (by omega), if_pos (by omega), show p.toNat + (q.toNat + 2 + i - q.toNat) = p.toNat + 2 + i from by omega]
      exact z.body i v e

theorem Lies.make (h : Lies ws A) {q : Int} {a b : Nat} {y : Int} (hq : A.ob q = none) (hqO : q ∉ A.O) (q0 : 0 < q) (fit : q.toNat + (a + b + 2) ≤ ws.length)
    (far : ∀ u v, A.ob u = some v → u.toNat + v.sz ≤ q.toNat ∨ q.toNat + (a + b + 2) ≤ u.toNat) (s64 : a + b ≤ 64) (y0 : 0 ≤ y) (y1 : y ≤ 1) :
    Lies (madeW ws q (a + b : Nat) (wordI (a + b : Nat) a 0 y false false false)) (A.make q ⟨0, y, false, false, q, List.replicate a 0, List.replicate b 0⟩) := by
  obtain ⟨ml, mg⟩ := made_get (ws := ws) (x := wordI (a + b : Nat) a 0 y false false false) q0 fit
  generalize madeW ws q (a + b : Nat) (wordI (a + b : Nat) a 0 y false false false) = vs at ml mg
  have en : (⟨0, y, false, false, q, List.replicate a 0, List.replicate b 0⟩ : Ob).n = a + b := by simp [Ob.n]
  have ez : (⟨0, y, false, false, q, List.replicate a 0, List.replicate b 0⟩ : Ob).sz = a + b + 2 := by unfold Ob.sz; rw [en]
  refine h.more (q := q) (o := ⟨0, y, false, false, q, List.replicate a 0, List.replicate b 0⟩) (old := false) q0 (fun u v e => ?_) (fun u n => Iff.rfl) (decide_eq_false hqO) (fun u v e => by rw [ez]; exact far u v e) ml (fun j hj => ?_) ?_
  · have e : upd A.ob q _ u = some v := e
    by_cases n : u = q
    · subst n; rw [upd_self] at e; cases e; exact .inl ⟨rfl, rfl⟩
    · rw [upd_ne n] at e; exact .inr ⟨n, e⟩
  · rw [ez] at hj
    rw [mg, if_neg (by omega), if_neg (by omega), if_neg (by omega)]
  · refine ⟨by rw [ez, ml]; exact fit, ?_, ?_, fun i v e => ?_, ?_⟩
    · rw [mg, if_neg (by omega), if_pos rfl]
      unfold Ob.word
      rw [en]
      simp
    · rw [mg, if_pos rfl]
    · have e : (List.replicate a (0 : Int) ++ List.replicate b 0)[i]? = some v := e
      have hi := (List.getElem?_eq_some_iff.1 e).1
      rw [List.length_append, List.length_replicate, List.length_replicate] at hi
      rw [List.replicate_append_replicate, List.getElem?_replicate, if_pos hi] at e
      cases e
      rw [mg, if_neg (by omega), if_neg (by omega), if_pos (by omega)]
    · rw [en, goodB_iff]
      simp only [List.length_replicate]
      omega
end
end Gc
end Go.Proofs.YthmhehehomieiaaGreat

/- The nearest number within bounds; of no program's own functions. -/
namespace Go.Proofs.YthmhehehomieiaaGreat

def cutI (n l m : Int) : Int := if n < l then l else if m < n then m else n

theorem cutI_in {n l m : Int} (h : l ≤ m) : l ≤ cutI n l m ∧ cutI n l m ≤ m := by unfold cutI; split <;> (try split) <;> omega
end Go.Proofs.YthmhehehomieiaaGreat

/- The nearest number within bounds: the document's Cut. -/
namespace Go.Proofs.YthmhehehomieiaaGreat
open Go.RowKit

end Go.Proofs.YthmhehehomieiaaGreat

/- The number of pages as a function of numbers; the contract of the document's Pages. -/
namespace Go.Proofs.YthmhehehomieiaaGreat
open Go.RowKit

theorem quiet_below {k : Nat} {xs : Array Value} {w : World} {v : Value} (h : Calls Tryz.prog k xs w fun e w' => e = .returned v ∧ w = w') :
    Calls Tryz.prog k xs w fun e w' => e = .returned v ∧ Below w.heap.size w w' := h.mono fun e w' ⟨he, hw⟩ => ⟨he, by subst hw; exact Below.refl _ _⟩

def pagesI (p w : Int) : Int := if p < 1 ∨ w < 1 then 0 else (w - 1) / p + 1

theorem tdiv_of {a b : Int} (h : 0 ≤ a) : a.tdiv b = a / b := Int.tdiv_eq_ediv_of_nonneg h

/-- As many pages as the quotient says, and one more for what is left. -/
theorem pagesI_left {p n : Int} (hp : ¬ p < 1) (hn : ¬ n < 1) (h : 0 < n % p) : pagesI p n = n / p + 1 := by
  have e := Int.mul_ediv_add_emod n p
  have l := Int.emod_lt_of_pos n (show 0 < p by omega)
  have : (n - 1) / p = n / p := by
    rw [Int.ediv_eq_iff_of_pos (by omega)]
    constructor
    · rw [Int.mul_comm]; omega
    · rw [Int.mul_comm]; omega
  rw [pagesI, if_neg (by omega), this]

theorem pagesI_even {p n : Int} (hp : ¬ p < 1) (hn : ¬ n < 1) (h : n % p = 0) : pagesI p n = n / p := by
  have e := Int.mul_ediv_add_emod n p
  have : (n - 1) / p = n / p - 1 := by
    have m : p * (n / p - 1) = p * (n / p) - p := by rw [Int.mul_sub, Int.mul_one]
    rw [Int.ediv_eq_iff_of_pos (by omega)]
    constructor
    · rw [Int.mul_comm]; omega
    · rw [Int.mul_comm]; omega
  rw [pagesI, if_neg (by omega), this]
  omega


theorem pagesI_enough {p n : Int} (hp : 1 ≤ p) (hn : 1 ≤ n) : 1 ≤ pagesI p n ∧ pagesI p n ≤ n ∧ n ≤ pagesI p n * p ∧ (pagesI p n - 1) * p < n ∧ pagesI p n * p < n + p := by
  have e := Int.mul_ediv_add_emod (n - 1) p
  have m0 : 0 ≤ (n - 1) % p := Int.emod_nonneg _ (by omega)
  have m1 := Int.emod_lt_of_pos (n - 1) (show 0 < p by omega)
  have q0 : 0 ≤ (n - 1) / p := Int.ediv_nonneg (by omega) (by omega)
  have q1 : (n - 1) / p ≤ n - 1 := Int.ediv_le_self p (by omega)
  rw [show pagesI p n = (n - 1) / p + 1 from if_neg (by omega)]
  have x : ((n - 1) / p + 1) * p = p * ((n - 1) / p) + p := by rw [Int.add_mul, Int.mul_comm, Int.one_mul]
  have y : ((n - 1) / p + 1 - 1) * p = p * ((n - 1) / p) := by rw [Int.add_sub_cancel, Int.mul_comm]
  omega
end Go.Proofs.YthmhehehomieiaaGreat

/- The size of a cell and the number of pages as functions of numbers; what is so of them; the contracts of the document's Round and Pages. -/
namespace Go.Proofs.YthmhehehomieiaaGreat
open Go.RowKit

/-- The least of the sizes a, 3a/2, 2a, .. that is w or more, k doublings far; behind them the last. -/
def rnd : Nat → Int → Int → Int
  | 0, a, _ => a
  | k + 1, a, w => if w ≤ a then a else if w ≤ a + a / 2 then a + a / 2 else rnd k (2 * a) w

def roundI (w : Int) : Int := rnd 38 4 w

theorem rnd_first {k : Nat} {a w : Int} (h : w ≤ a) : rnd (k + 1) a w = a := by unfold rnd; rw [if_pos h]
theorem rnd_second {k : Nat} {a w : Int} (h : ¬ w ≤ a) (h2 : w ≤ a + a / 2) : rnd (k + 1) a w = a + a / 2 := by unfold rnd; rw [if_neg h, if_pos h2]
theorem rnd_more {k : Nat} {a w : Int} (h : ¬ w ≤ a) (h2 : ¬ w ≤ a + a / 2) : rnd (k + 1) a w = rnd k (2 * a) w := by rw [rnd, if_neg h, if_neg h2]

/-- a, doubled k times, is 2^40. -/
def Far : Nat → Int → Prop
  | 0, a => a = 1099511627776
  | k + 1, a => 4 ≤ a ∧ a % 4 = 0 ∧ a ≤ 549755813888 ∧ Far k (2 * a)

theorem far_start : Far 38 4 := by
  simp [Far]

theorem far_bounds {k : Nat} {a : Int} (h : Far k a) : 4 ≤ a ∧ a % 4 = 0 ∧ a ≤ 1099511627776 := by
  cases k with
  | zero => cases h; omega
  | succ k => obtain ⟨h0, h1, h2, _⟩ := h; omega

theorem rnd_ge {k : Nat} {a n : Int} (h : Far k a) (hn : n ≤ 1099511627776) : n ≤ rnd k a n ∧ a ≤ rnd k a n ∧ rnd k a n ≤ 1099511627776 := by
  induction k generalizing a with
  | zero => cases h; exact ⟨hn, Int.le_refl _, Int.le_refl _⟩
  | succ k ih =>
    obtain ⟨h0, h1, h2, h3⟩ := h
    by_cases g : n ≤ a
    · rw [rnd_first g]; omega
    · by_cases g2 : n ≤ a + a / 2
      · rw [rnd_second g g2]; omega
      · rw [rnd_more g g2]
        have := ih h3
        omega

/-- Any number's size is 4 or more, and 2^40 at most. -/
theorem rnd_in {k : Nat} {a : Int} (n : Int) (h : Far k a) : a ≤ rnd k a n ∧ rnd k a n ≤ 1099511627776 := by
  induction k generalizing a with
  | zero => cases h; exact ⟨Int.le_refl _, Int.le_refl _⟩
  | succ k ih =>
    obtain ⟨h0, h1, h2, h3⟩ := h
    by_cases g : n ≤ a
    · rw [rnd_first g]; omega
    · by_cases g2 : n ≤ a + a / 2
      · rw [rnd_second g g2]; omega
      · rw [rnd_more g g2]
        have := ih h3
        omega

theorem rnd_tight {k : Nat} {a n : Int} (h : Far k a) (hn : n ≤ 1099511627776) (hp : (a = 4 ∧ 0 ≤ n) ∨ 3 * a < 4 * n) : rnd k a n < 2 * n + 7 := by
  induction k generalizing a with
  | zero => cases h; simp only [rnd]; omega
  | succ k ih =>
    obtain ⟨h0, h1, h2, h3⟩ := h
    by_cases g : n ≤ a
    · rw [rnd_first g]; omega
    · by_cases g2 : n ≤ a + a / 2
      · rw [rnd_second g g2]; omega
      · rw [rnd_more g g2]
        exact ih h3 (Or.inr (by omega))

theorem rnd_mono {k : Nat} {a m n : Int} (h : Far k a) (hmn : m ≤ n) : rnd k a m ≤ rnd k a n := by
  induction k generalizing a with
  | zero => exact Int.le_refl _
  | succ k ih =>
    have hb := rnd_in n h
    obtain ⟨h0, h1, h2, h3⟩ := h
    by_cases g : m ≤ a
    · rw [rnd_first g]; omega
    · by_cases g2 : m ≤ a + a / 2
      · rw [rnd_second g g2]
        by_cases g3 : n ≤ a + a / 2
        · rw [rnd_second (by omega) g3]; omega
        · rw [rnd_more (by omega) g3]
          have := rnd_in n h3
          omega
      · rw [rnd_more g g2, rnd_more (by omega) (by omega)]
        exact ih h3

theorem rnd_again {k : Nat} {a : Int} (n : Int) (h : Far k a) : rnd k a (rnd k a n) = rnd k a n := by
  induction k generalizing a with
  | zero => rfl
  | succ k ih =>
    obtain ⟨h0, h1, h2, h3⟩ := h
    by_cases g : n ≤ a
    · rw [rnd_first g, rnd_first (Int.le_refl a)]
    · by_cases g2 : n ≤ a + a / 2
      · rw [rnd_second g g2, rnd_second (by omega) (Int.le_refl _)]
      · rw [rnd_more g g2]
        have := rnd_in n h3
        rw [rnd_more (by omega) (by omega), ih h3]

theorem roundI_ge {n : Int} (hn : n ≤ 1099511627776) : n ≤ roundI n := (rnd_ge far_start hn).1
theorem roundI_in (n : Int) : 4 ≤ roundI n ∧ roundI n ≤ 1099511627776 := rnd_in n far_start
theorem roundI_tight {n : Int} (h0 : 0 ≤ n) (hn : n ≤ 1099511627776) : roundI n < 2 * n + 7 := rnd_tight far_start hn (Or.inl ⟨rfl, h0⟩)
theorem roundI_mono {m n : Int} (h : m ≤ n) : roundI m ≤ roundI n := rnd_mono far_start h
theorem roundI_again (n : Int) : roundI (roundI n) = roundI n := rnd_again n far_start

end Go.Proofs.YthmhehehomieiaaGreat

/- The document's space (cells in a list, pages that are pending) as it lies in memory; contract of which page a place is in. -/
namespace Go.Proofs.YthmhehehomieiaaGreat
open Go.RowKit

/-- Something in use, or not, in a block; or something large. -/
structure Rc where
  pos : Int
  words : Int
  used : Bool
  large : Bool

def Rc.vs (c : Rc) : List Value := [.int .i64 c.pos, .int .i64 c.words, .bool c.used, .bool c.large]
def rcV (cs : List Rc) : List Value := cs.flatMap Rc.vs

def spP (a : Nat) : Value := .pointer (some ⟨a, 0, none⟩)

/-- What is asked of a cell's numbers. -/
def Sane (c : Rc) : Prop := 0 ≤ c.pos ∧ c.pos ≤ 2097152 ∧ 1 ≤ c.words ∧ c.words ≤ 2097152


theorem rcV_length (cs : List Rc) : (rcV cs).length = cs.length * 4 := by
  induction cs with
  | nil => rfl
  | cons c cs ih => simp only [rcV, List.flatMap_cons, List.length_append, List.length_cons] at ih ⊢; rw [ih]; simp [Rc.vs]; omega

theorem rcV_at (cs : List Rc) (i j : Nat) (c : Rc) (h : cs[i]? = some c) (hj : j < 4) : (rcV cs)[i * 4 + j]? = c.vs[j]? := by
  induction cs generalizing i with
  | nil => simp at h
  | cons d cs ih =>
    cases i with
    | zero =>
      obtain rfl : d = c := by simpa using h
      simp only [rcV, List.flatMap_cons, Nat.zero_mul, Nat.zero_add]
      exact List.getElem?_append_left (by simpa [Rc.vs] using hj)
    | succ i =>
      have := ih i (by simpa using h)
      rw [← this]
      simp only [rcV, List.flatMap_cons]
      rw [List.getElem?_append_right (by simp [Rc.vs]; omega)]
      congr 1
      simp [Rc.vs]
      omega


def ofI (F G n : Int) : Int := (n - F).tdiv G

theorem ofI_in {F G n : Int} (f0 : 0 ≤ F) (f1 : F ≤ 1048576) (g0 : 1 ≤ G) (n0 : -1099511627776 ≤ n) (n1 : n ≤ 1099511627776) : -2199023255552 ≤ ofI F G n ∧ ofI F G n ≤ 2199023255552 := by
  unfold ofI
  rcases Int.lt_or_le (n - F) 0 with h | h
  · obtain ⟨q, hq⟩ : ∃ q, n - F = - q := ⟨-(n - F), by omega⟩
    rw [hq, Int.neg_tdiv, tdiv_of (by omega)]
    have := Int.ediv_nonneg (show 0 ≤ q by omega) (show 0 ≤ G by omega)
    have := Int.ediv_le_self G (show 0 ≤ q by omega)
    omega
  · rw [tdiv_of h]
    have := Int.ediv_nonneg h (show 0 ≤ G by omega)
    have := Int.ediv_le_self G h
    omega

theorem Blk.five {w : World} {b : Nat} {t : TypeId} {v0 v1 v2 v3 v4 : Value} (h : Blk w b #[v0, v1, v2, v3, v4] t) :
    w.cell? ⟨b, 0, none⟩ = some v0 ∧ w.cell? ⟨b, 1, none⟩ = some v1 ∧ w.cell? ⟨b, 2, none⟩ = some v2 ∧ w.cell? ⟨b, 3, none⟩ = some v3 ∧ w.cell? ⟨b, 4, none⟩ = some v4 ∧ (∀ i, w.frozen? ⟨b, i, none⟩ = false) :=
  ⟨h.cell 0, h.cell 1, h.cell 2, h.cell 3, h.cell 4, h.frozen⟩

theorem ownsRow_keep {w w' : World} {e : TypeId} {k : Nat} {v : Value} {n : Nat} {xs : List Value} (h : w.ownsRow 0 e k v n xs) (b : Below w.heap.size w w') : w'.ownsRow 0 e k v n xs := by
  refine ⟨h.1, h.2.imp id ?_⟩
  rintro ⟨g, cap, cur, e1, e2, e3, e4⟩
  exact ⟨g, cap, cur, e1, e2, (b.block g (Array.getElem?_eq_some_iff.1 e3).1).trans e3, e4⟩

end Go.Proofs.YthmhehehomieiaaGreat

/- Contracts of the document's free, find, Size and Count. -/
namespace Go.Proofs.YthmhehehomieiaaGreat
open Go.RowKit

/-- Does something of the cell lie in page n? -/
def onB (F G n : Int) (c : Rc) : Bool := decide (ofI F G c.pos ≤ n) && decide (n ≤ ofI F G (c.pos + c.words - 1))

def freeB (F G : Int) (cs : List Rc) (n : Int) : Bool := cs.all fun c => !onB F G n c


def hitB (n : Int) (c : Rc) : Bool := decide (c.pos = n) && c.used

/-- Where the first cell in use lies that begins at n; below 0: nowhere. -/
def findI (cs : List Rc) (n : Int) : Int := match cs.findIdx? (hitB n) with
  | some i => i
  | none => -1


def sizeV (cs : List Rc) (n : Int) : Value := match cs.find? (hitB n) with
  | some c => .tuple #[.int .i64 c.words, .bool true]
  | none => .tuple #[.int .i64 0, .bool false]

theorem findI_cases (cs : List Rc) (n : Int) : (∃ (i : Nat) (c : Rc), findI cs n = i ∧ cs[i]? = some c ∧ cs.find? (hitB n) = some c ∧ hitB n c = true) ∨ (findI cs n = -1 ∧ cs.find? (hitB n) = none) := by
  unfold findI
  cases h : cs.findIdx? (hitB n) with
  | none => exact Or.inr ⟨rfl, by rw [List.findIdx?_eq_none_iff] at h; rw [List.find?_eq_none]; intro x hx; rw [h x hx]; exact Bool.false_ne_true⟩
  | some i =>
    have h1 := List.findIdx?_eq_some_iff_getElem.1 h
    obtain ⟨hi, hp, hn⟩ := h1
    refine Or.inl ⟨i, cs[i], rfl, List.getElem?_eq_getElem hi, ?_, hp⟩
    rw [List.find?_eq_some_iff_getElem]
    exact ⟨hp, i, hi, rfl, fun j hj => by simpa using hn j hj⟩


/-- Pages below k that are free. -/
def freesI (F G : Int) (cs : List Rc) : Nat → Int
  | 0 => 0
  | k + 1 => freesI F G cs k + (if freeB F G cs k then 1 else 0)

def usedI : List Rc → Int
  | [] => 0
  | c :: cs => (if c.used then c.words else 0) + usedI cs

theorem freesI_in (F G : Int) (cs : List Rc) (k : Nat) : 0 ≤ freesI F G cs k ∧ freesI F G cs k ≤ k := by
  induction k with
  | zero => exact ⟨Int.le_refl _, Int.le_refl _⟩
  | succ k ih => simp only [freesI]; split <;> omega

theorem usedI_in (cs : List Rc) (h : ∀ c ∈ cs, Sane c) : 0 ≤ usedI cs ∧ usedI cs ≤ 2097152 * cs.length := by
  induction cs with
  | nil => exact ⟨Int.le_refl _, Int.le_refl _⟩
  | cons c cs ih =>
    have := ih fun d hd => h d (List.mem_cons_of_mem _ hd)
    obtain ⟨s0, s1, s2, s3⟩ := h c (List.mem_cons_self ..)
    simp only [usedI, List.length_cons]
    split <;> omega

theorem usedI_snoc (cs : List Rc) (c : Rc) : usedI (cs ++ [c]) = usedI cs + (if c.used then c.words else 0) := by
  induction cs with
  | nil => simp [usedI]
  | cons d cs ih => simp only [List.cons_append, usedI, ih]; omega

theorem take_snoc {α : Type} {cs : List α} {j : Nat} {c : α} (h : cs[j]? = some c) : cs.take (j + 1) = cs.take j ++ [c] := by
  rw [List.take_add_one, h]; rfl

end Go.Proofs.YthmhehehomieiaaGreat

/- Of no program: a region that draws its order, whose operations are quiet (they read, or call what reads and draws) but for a forced tail that may write: one walk in the order of the text serves. -/
namespace Go.Proofs.YthmhehehomieiaaGreat

section
variable {P : Program} {md : Region.Mode} {ops : Array Oper} {C : World → Prop}

/-- f operations more come up, each one of the first n and quiet, whichever is picked; then L. -/
def HeadQ (P : Program) (md : Region.Mode) (ops : Array Oper) (C : World → Prop) (n : Nat) (L : Array Bool → Act → Prop) : Nat → Array Bool → Act → Prop
  | 0, done, a => L done a
  | f + 1, done, a => Region.ready md ops done ≠ [] ∧ ∀ i ∈ Region.ready md ops done, i < n ∧ qOp P ops C i (HeadQ P md ops C n L f (done.setIfInBounds i true)) a

theorem HeadQ.any {n g : Nat} {L : Array Bool → Act → Prop} {Q : Exit → Act → World → Prop} (hL : ∀ done a w, C w → L done a → wpAny P md ops Q g done a w) (f : Nat) :
    ∀ done a w, C w → HeadQ P md ops C n L f done a → wpAny P md ops Q (f + g) done a w := by
  induction f with
  | zero => intro done a w hw h; rw [Nat.zero_add]; exact hL done a w hw h
  | succ f ih =>
    intro done a w hw h
    rw [Nat.succ_add]
    exact ⟨fun e => absurd e h.1, fun i hi => wpOp_of_qOp hw (fun a' w' hw' h' => ih _ a' w' hw' h') (h.2 i hi).2⟩

/-- An operation of the head that may come up now may be taken first. -/
theorem HeadQ.first {n i : Nat} {o : Oper} {v : Value} {L : Array Bool → Act → Prop} (ho : ops[i]? = some o) (sel : Region.noSelect ops = true)
    (sink : Region.sinkB md ops n = true) (chain : Region.chainB md ops n = true) (hn : n < ops.size) (hin : i < n) (last : ∀ done a, L done a → ∀ j ∈ Region.ready md ops done, n ≤ j) (f : Nat) :
    ∀ done a, HeadInv md ops n done →
      (∀ j oj, ops[j]? = some oj → j ≠ i → done.getD j true = false → (∀ e ∈ oj.after, Region.binds md e = true → e.on ≠ i) → o.apart ops oj = true) →
      i ∈ Region.ready md ops done → YieldsIn P ops C o v a → HeadQ P md ops C n L f (done.setIfInBounds i true) (a.put o.dst v) → HeadQ P md ops C n L (f + 1) done a := by
  induction f with
  | zero =>
    intro done a inv _ hr hy H
    refine ⟨List.ne_nil_of_mem hr, fun j hj => ?_⟩
    have hjn : j < n := Nat.lt_of_not_le fun h => tail_waits sink chain hn inv _ i rfl hin (mem_ready.1 hr).1 j h hj
    by_cases e : j = i
    · subst e; exact ⟨hjn, hy.qOp ho H⟩
    · have := last _ _ H j (ready_mono hj e)
      omega
  | succ f ih =>
    intro done a inv fr hr hy H
    refine ⟨List.ne_nil_of_mem hr, fun j hj => ?_⟩
    have hjn : j < n := Nat.lt_of_not_le fun h => tail_waits sink chain hn inv _ i rfl hin (mem_ready.1 hr).1 j h hj
    by_cases e : j = i
    · subst e; exact ⟨hjn, hy.qOp ho H⟩
    · obtain ⟨hju, oj, hoj, hall⟩ := mem_ready.1 hj
      have off : ∀ d ∈ oj.after, Region.binds md d = true → d.on ≠ i := fun d hd hb hon => by
        have h1 := hall d hd hb
        rw [hon, getD_both (mem_ready.1 hr).1] at h1
        cases h1
      have S := Region.noSelect_spec sel
      have h2 := qOp_put hoj (fr j oj hoj e hju off) (fun cs b => S i o cs b ho) (fun cs b => S j oj cs b hoj) hy (H.2 j (ready_mono hj e)).2
      refine ⟨hjn, qOp_mono (fun a' h3 => ih _ a' (inv.set hj hjn) (fun k ok hk hki hu hno => fr k ok hk hki ?_ hno) (ready_mono hr (Ne.symm e)) h3.1 ?_) h2⟩
      · by_cases ek : j = k
        · subst ek; exact hju
        · rwa [getD_set_ne true ek] at hu
      · rw [Array.setIfInBounds_comm _ _ e]
        exact h3.2

theorem HeadQ.lex {n g : Nat} {T : Act → Prop} (sel : Region.noSelect ops = true) (sink : Region.sinkB md ops n = true) (chain : Region.chainB md ops n = true) (hn : n < ops.size) (l : List Oper) :
    ∀ k done a, (∀ j, j < l.length → l[j]? = ops[k + j]?) → k + l.length = n → HeadInv md ops n done → Region.lexHead md ops g l.length k done = true → wpQuiet P ops C T l a →
      HeadQ P md ops C n (fun d a' => Region.seqB md ops g n d = true ∧ T a') l.length done a := by
  induction l with
  | nil =>
    intro k done a _ hk _ hB h
    obtain rfl : k = n := by simpa using hk
    exact ⟨by simpa [Region.lexHead] using hB, h⟩
  | cons o l ih =>
    intro k done a hl hk inv hB h
    have h0 : ops[k]? = some o := by simpa using (hl 0 (by simp)).symm
    have hkl : k + (l.length + 1) = n := hk
    have hkn : k < n := by omega
    simp only [List.length_cons, Region.lexHead, Bool.and_eq_true] at hB
    have hr : k ∈ Region.ready md ops done := by simpa using hB.1.1
    have hq : qOp P ops C k (wpQuiet P ops C T l) a := by unfold qOp; simp only [h0]; exact h
    obtain ⟨v, hy, hK⟩ := yieldsIn_of_qOp h0 hq
    refine HeadQ.first h0 sel sink chain hn hkn (fun d a' hL => seqB_ready hL.1) l.length done a inv (Region.free_spec h0 hB.1.2) hr hy (ih (k + 1) _ _ (fun j hj => ?_) (by omega) (inv.set hr hkn) hB.2 hK)
    have := hl (j + 1) (by simp; omega)
    simpa [Nat.add_assoc, Nat.add_comm 1 j] using this

/-- The region's head is walked quietly, its tail as it stands, in a world behind some draws. -/
theorem region_quiet_tail {id : Nat} {Q : Exit → Act → World → Prop} {a : Act} {w : World} {l : List Oper} (n : Nat) (hm : P.follows .mixedOrders = true) (hB : Region.lexTailB .any l.toArray n = true)
    (h : wpQuiet P l.toArray (fun w' => ∃ m, w' = w.drewN m) (fun a' => ∀ w', (∃ m, w' = w.drewN m) → wpList P l.toArray Q (l.drop n) a' w') (l.take n) a) : (Code.region id l.toArray true).wp P Q a w := by
  simp only [Region.lexTailB, Bool.and_eq_true, decide_eq_true_eq] at hB
  obtain ⟨⟨⟨⟨sel, hn⟩, sink⟩, chain⟩, lex⟩ := hB
  have hn' : n < l.length := by simpa using hn
  have e1 : (l.take n).length = n := by simp; omega
  have e2 : (l.drop n).length = l.toArray.size - n := by simp
  have inv : HeadInv .any l.toArray n (Array.replicate l.toArray.size false) :=
    ⟨by simp, fun j oj _ hj => (by rw [getD_replicate_false] at hj; cases hj), fun t _ ht => getD_in (by simpa using ht) (getD_replicate_false _ _)⟩
  have H := HeadQ.lex (g := l.toArray.size - n) sel sink chain hn (l.take n) 0 _ a (fun j hj => by
    have : j < n := by omega
    simp [this]) (by simpa using e1) inv (by rw [e1]; exact lex) h
  refine wp_region_any hm ?_
  have R := HeadQ.any (Q := Q) (g := l.toArray.size - n) (fun d a' w' hw' hL => by
    have := wpAny_of_seq (md := .any) (Q' := Q) (l.drop n) n d a' w' (fun j => by simp [List.getElem?_drop]) (by rw [e2]; exact hL.1) (hL.2 w' hw')
    rwa [e2] at this) _ _ _ { w with drawn := w.drawn + 1 } ⟨1, rfl⟩ H
  rw [e1, show n + (l.toArray.size - n) = l.toArray.size by omega] at R
  exact R
end
end Go.Proofs.YthmhehehomieiaaGreat

/- Contracts of the document's Cut, New and Pend. -/
namespace Go.Proofs.YthmhehehomieiaaGreat
open Go.RowKit


/-- Does a cell begin in page n? -/
def hasR (F G : Int) (cs : List Rc) (n : Int) : Bool := cs.any fun c => decide (ofI F G c.pos = n)

theorem hasB_snoc (F G : Int) (cs : List Rc) (c : Rc) (n : Int) : hasR F G (cs ++ [c]) n = (hasR F G cs n || decide (ofI F G c.pos = n)) := by
  simp [hasR]




end Go.Proofs.YthmhehehomieiaaGreat

/- A slice of ints that lies anywhere in a block of its own: read, cut at its front, appended to, copied; of no program's own functions. -/
namespace Go.Proofs.YthmhehehomieiaaGreat
open Go.RowKit

/-- The slice (A, n, c) holds xs; where it has an address, it lies within one block of ints. -/
structure Qu (w : World) (A : Option Addr) (n c : Nat) (xs : List Int) : Prop where
  len : xs.length = n
  le : n ≤ c
  max : c ≤ maxLen
  lies : (A = none ∧ c = 0) ∨ ∃ g off cs, A = some ⟨g, off, none⟩ ∧ Blk w g cs 3 ∧ off + c ≤ cs.size ∧ ∀ i x, xs[i]? = some x → cs[off + i]? = some (.int .i64 x)

/-- The block that a slice lies in. -/
def blkOf (A : Option Addr) : Option Nat := A.map Addr.block

def ints (ys : List Int) : List Value := ys.map (Value.int .i64)

theorem info_int : (Tryz.prog.info? 3).map (fun i => (i.zero, i.size, i.bytes)) = some (some (.int .i64 0), 1, 8) := by kernel_rfl

section
variable {w w' : World} {A : Option Addr} {n c : Nat} {xs : List Int}

theorem Qu.lt (h : Qu w A n c xs) {k : Nat} (hk : blkOf A = some k) : k < w.heap.size := by
  rcases h.lies with ⟨rfl, _⟩ | ⟨g, off, cs, rfl, hb, _⟩
  · cases hk
  · cases hk
    exact hb.lt

theorem Qu.frm {S : Nat → Prop} (h : Qu w A n c xs) (f : Frm S w w') (hs : ∀ k, blkOf A = some k → ¬ S k) : Qu w' A n c xs := by
  refine { h with lies := h.lies.imp id ?_ }
  rintro ⟨g, off, cs, rfl, hb, hr⟩
  exact ⟨g, off, cs, rfl, hb.frm f (hs g rfl), hr⟩

theorem Qu.keep (h : Qu w A n c xs) (f : Below w.heap.size w w') : Qu w' A n c xs := h.frm (S := fun _ => False) (Frm.of_below f) (fun _ _ e => e)

theorem Qu.nil (w : World) : Qu w none 0 0 [] := ⟨rfl, Nat.le_refl _, Nat.zero_le _, .inl ⟨rfl, rfl⟩⟩

theorem Qu.fresh (w : World) : Qu (w.alloc (.cells #[] 3)) (some ⟨w.heap.size, 0, none⟩) 0 0 [] :=
  ⟨rfl, Nat.le_refl _, Nat.zero_le _, .inr ⟨w.heap.size, 0, #[], rfl, Blk.new w _ _, Nat.le_refl _, fun i x hx => by simp at hx⟩⟩

theorem Qu.one (w : World) (x : Int) : Qu (w.alloc (.cells #[.int .i64 x] 3)) (some ⟨w.heap.size, 0, none⟩) 1 1 [x] :=
  ⟨rfl, Nat.le_refl _, by decide, .inr ⟨w.heap.size, 0, #[.int .i64 x], rfl, Blk.new w _ _, Nat.le_refl _, fun i y hy => by
    match i, hy with
    | 0, hy => simp at hy; subst hy; rfl⟩⟩

/-- Where it holds something, there is an address, and its numbers lie behind it. -/
theorem Qu.at_ (h : Qu w A n c xs) (hn : 0 < n) : ∃ g off, A = some ⟨g, off, none⟩ ∧ g < w.heap.size ∧ (∀ i x, xs[i]? = some x → w.cell? ⟨g, off + i, none⟩ = some (.int .i64 x)) ∧ (∀ i, w.frozen? ⟨g, i, none⟩ = false) := by
  rcases h.lies with ⟨_, hc⟩ | ⟨g, off, cs, rfl, hb, _, hx⟩
  · have := h.le; omega
  · exact ⟨g, off, rfl, hb.lt, fun i x hi => by rw [hb.cell]; exact hx i x hi, hb.frozen⟩

/-- Its front cut off: with room behind the first one, and without. -/
theorem Qu.tail {x : Int} {g off : Nat} (h : Qu w (some ⟨g, off, none⟩) (n + 1) c (x :: xs)) (hc : 1 < c) : Qu w (some ⟨g, off + 1, none⟩) n (c - 1) xs := by
  have hl : xs.length = n := by have := h.len; simpa using this
  refine ⟨hl, by have := h.le; omega, by have := h.max; omega, .inr ?_⟩
  rcases h.lies with ⟨e, _⟩ | ⟨g', off', cs, e, hb, hs, hx⟩
  · cases e
  · cases e
    exact ⟨g, off + 1, cs, rfl, hb, by omega, fun i y hy => by
      have := hx (i + 1) y (by simpa using hy)
      rwa [show off + (i + 1) = off + 1 + i by omega] at this⟩

theorem Qu.tail1 {x : Int} {g off : Nat} (h : Qu w (some ⟨g, off, none⟩) (n + 1) 1 (x :: xs)) : Qu w (some ⟨g, off, none⟩) 0 0 xs ∧ n = 0 := by
  have hl : xs.length = n := by have := h.len; simpa using this
  have hn : n = 0 := by have := h.le; omega
  subst hn
  refine ⟨⟨hl, Nat.le_refl _, Nat.zero_le _, .inr ?_⟩, rfl⟩
  rcases h.lies with ⟨e, _⟩ | ⟨g', off', cs, e, hb, hs, hx⟩
  · cases e
  · cases e
    exact ⟨g, off, cs, rfl, hb, by omega, fun i y hy => by rw [List.eq_nil_of_length_eq_zero hl] at hy; simp at hy⟩

theorem Qu.of_own {B : Nat} {v : Value} (hn : n ≠ 0) (h : w.ownsRow B 3 1 v n (ints xs)) : ∃ g cap, v = .slice (some ⟨g, 0, none⟩) n cap ∧ B ≤ g ∧ Qu w (some ⟨g, 0, none⟩) n cap xs := by
  obtain ⟨hl, hv⟩ := h
  rw [ints, List.length_map, Nat.mul_one] at hl
  rcases hv with ⟨_, e⟩ | ⟨g, cap, cur, e, hB, hg, hnc, hm, hs, ht⟩
  · exact absurd e hn
  · refine ⟨g, cap, e, hB, hl, hnc, hm, .inr ⟨g, 0, cur, rfl, hg, by omega, fun i x hx => ?_⟩⟩
    have hi : i < n := by have := (List.getElem?_eq_some_iff.1 hx).1; omega
    have e1 : (ints xs)[i]? = some (.int .i64 x) := by simp [ints, hx]
    rw [← ht, Nat.mul_one, List.getElem?_take_of_lt hi, Array.getElem?_toList] at e1
    rw [Nat.zero_add]
    exact e1
end

/-- What has turned: only the block that the slice lies in; the new slice lies there, too, or in a new block. -/
structure Grw (A A' : Option Addr) (w w' : World) : Prop where
  frm : Frm (fun k => blkOf A = some k) w w'
  at_ : ∀ k, blkOf A' = some k → blkOf A = some k ∨ w.heap.size ≤ k

theorem frm_none {S : Nat → Prop} {w w' : World} (h : w.grownBy w' none) : Frm S w w' := ⟨h.os, h.tape, h.output, h.size, fun k hk _ => h.block k hk (by simp)⟩

theorem below_none {w w' : World} (h : w.grownBy w' none) : Below w.heap.size w w' := ⟨h.os, h.tape, h.output, h.size, fun k hk => h.block k hk (by simp)⟩

/-- One more behind its last. -/
theorem Qu.append {w : World} {A : Option Addr} {n c : Nat} {xs : List Int} (h : Qu w A n c xs) (few : n ≤ 1048576) (x : Int) (ad : Addr) (k : Nat) (hc : w.cell? ad = some (.int .i64 x)) (ty : TypeId) :
    ∃ A' c' w', (Builtin.append_ #[39, 39] ty #[.slice A n c, .slice (some ad) 1 k]).run Tryz.prog w = .ok (.slice A' (n + 1) c') w' ∧ Qu w' A' (n + 1) c' (xs ++ [x]) ∧ Grw A A' w w' := by
  obtain ⟨i0, hi, hz, hs, hby⟩ := info_parts info_int
  have hl1 : [Value.int .i64 x].length = 1 * 1 := rfl
  have hnews : ∀ j u, [Value.int .i64 x][j]? = some u → w.cell? (ad.add j) = some u := by
    intro j u hj
    match j, hj with
    | 0, hj => simp at hj; subst hj; simpa [Addr.add] using hc
  have hone : ∀ u ∈ [Value.int .i64 x], u.oneCell' = true := by intro u hu; simp at hu; subst hu; rfl
  have hlx : (ints xs).length = n * 1 := by rw [ints, List.length_map, h.len]; omega
  have ea : ints xs ++ [.int .i64 x] = ints (xs ++ [x]) := by simp [ints]
  rcases h.lies with ⟨rfl, rfl⟩ | ⟨g, off, cs, rfl, hb, hsz, hx⟩
  · have hn : n = 0 := by have := h.le; omega
    subst hn
    obtain rfl : xs = [] := List.eq_nil_of_length_eq_zero h.len
    obtain ⟨v', w', hrun, r1, r2, _⟩ := run_append_own (P := Tryz.prog) w w.heap.size 39 ty 3 i0 (.int .i64 0) 1 8 Tryz.underlying39 hi hz hs hby rfl (by decide) (.slice none 0 0) 0 [] (World.ownsRow_nil w _ 3 1) ad 1 k [.int .i64 x] rfl hnews hone (by decide) (by decide) (Nat.le_refl _)
    obtain ⟨g', cap, rfl, hB, q⟩ := Qu.of_own (xs := [x]) (by omega) r1
    exact ⟨_, _, w', hrun, q, frm_none r2, fun k hk => by cases hk; exact .inr hB⟩
  · by_cases hr : n + 1 ≤ c
    · have hlt : off + n < cs.size := by omega
      have hrun := run_append_room_cells (P := Tryz.prog) w 39 ty 3 i0 Tryz.underlying39 hi g off n c ad 1 k [.int .i64 x] (by rw [hs]; rfl) hnews hone hr
        (fun j hj => by
          obtain rfl : j = 0 := by simpa using hj
          rw [hs, hb.cell]; simp [hlt]) (fun j hj => hb.frozen _)
      rw [hs, Nat.mul_one] at hrun
      refine ⟨_, _, _, hrun, ⟨by rw [List.length_append, h.len]; rfl, hr, h.max, .inr ⟨g, off, _, rfl, hb.set_ (off + n) (.int .i64 x), by simpa using hsz, fun i y hy => ?_⟩⟩, (show Frm (fun k => blkOf (some ⟨g, off, none⟩) = some k) w (w.setCell ⟨g, off + n, none⟩ (.int .i64 x)) from Frm.setCell (S := fun k => blkOf (some ⟨g, off, none⟩) = some k) (Frm.refl _ _) (p := ⟨g, off + n, none⟩) (fun _ => rfl) _), fun k hk => .inl hk⟩
      rw [Array.getElem?_setIfInBounds]
      by_cases hin : i < n
      · rw [List.getElem?_append_left (by rw [h.len]; exact hin)] at hy
        rw [if_neg (by omega)]
        exact hx i y hy
      · rw [List.getElem?_append_right (by rw [h.len]; omega), h.len] at hy
        have e0 : i - n = 0 := by have := (List.getElem?_eq_some_iff.1 hy).1; simp at this; omega
        rw [e0] at hy
        simp at hy
        subst hy
        rw [if_pos (by omega), if_pos (by omega)]
    · obtain ⟨v', w', hrun, r1, r2⟩ := run_append_arg_grows (P := Tryz.prog) w 39 ty 3 i0 (.int .i64 0) 1 8 Tryz.underlying39 hi hz hs hby rfl (by decide) ⟨g, off, none⟩ n c (ints xs) hlx
        (fun j u hj => by
          rw [Addr.add_lit, hb.cell]
          rw [ints, List.getElem?_map] at hj
          cases e : xs[j]? with
          | none => rw [e] at hj; cases hj
          | some y => rw [e] at hj; cases hj; exact hx j y e)
        ad 1 k [.int .i64 x] rfl hnews (by omega) (by unfold maxLen; omega) (by omega)
      rw [ea] at r1
      obtain ⟨g', cap, rfl, hB, q⟩ := Qu.of_own (by omega) r1
      exact ⟨_, _, w', hrun, q, frm_none r2, fun k hk => by cases hk; exact .inr hB⟩

/-- All of it appended to its front, cut off with its room: a copy. -/
theorem Qu.copy {w : World} {A : Option Addr} {n c : Nat} {xs : List Int} (h : Qu w A n c xs) (few : n ≤ 1048576) (ty : TypeId) :
    ∃ A' c' w', (Builtin.append_ #[39, 39] ty #[.slice A 0 0, .slice A n c]).run Tryz.prog w = .ok (.slice A' n c') w' ∧ Qu w' A' n c' xs ∧ Below w.heap.size w w' ∧ (0 < n → ∀ k, blkOf A' = some k → w.heap.size ≤ k) := by
  obtain ⟨i0, hi, hz, hs, hby⟩ := info_parts info_int
  by_cases hn : n = 0
  · subst hn
    have hx0 : xs = [] := List.eq_nil_of_length_eq_zero h.len
    subst hx0
    refine ⟨A, 0, w, ?_, ⟨rfl, Nat.le_refl _, Nat.zero_le _, ?_⟩, Below.refl _ _, fun h0 => absurd h0 (by omega)⟩
    · cases A <;> simp [Builtin.append_, run_underlying Tryz.underlying39, sizeOf, typeInfo, hi, Builtin.lenOf, Builtin.firstCells, storeCells, loadCells, loadCellsFrom]
    · rcases h.lies with ⟨rfl, rfl⟩ | ⟨g, off, cs, rfl, hb, hsz, hx⟩
      · exact .inl ⟨rfl, rfl⟩
      · exact .inr ⟨g, off, cs, rfl, hb, by omega, hx⟩
  · rcases h.lies with ⟨rfl, rfl⟩ | ⟨g, off, cs, rfl, hb, hsz, hx⟩
    · exact absurd h.le (by omega)
    · have hnews : ∀ j u, (ints xs)[j]? = some u → w.cell? ((⟨g, off, none⟩ : Addr).add j) = some u := by
        intro j u hj
        rw [Addr.add_lit, hb.cell]
        rw [ints, List.getElem?_map] at hj
        cases e : xs[j]? with
        | none => rw [e] at hj; cases hj
        | some y => rw [e] at hj; cases hj; exact hx j y e
      obtain ⟨v', w', hrun, r1, r2⟩ := run_append_arg_grows (P := Tryz.prog) w 39 ty 3 i0 (.int .i64 0) 1 8 Tryz.underlying39 hi hz hs hby rfl (by decide) ⟨g, off, none⟩ 0 0 [] rfl
        (fun j u hj => by simp at hj) ⟨g, off, none⟩ n c (ints xs) (by rw [ints, List.length_map, h.len]; omega) hnews (by omega) (by unfold maxLen; omega) (by omega)
      rw [Nat.zero_add, List.nil_append] at r1
      obtain ⟨g', cap, rfl, hB, q⟩ := Qu.of_own hn r1
      exact ⟨_, _, w', hrun, q, below_none r2, fun _ k hk => by cases hk; exact hB⟩

/-- .. at the operation, for the walk. -/
theorem wpList_append_qu (w : World) {ops : Array Oper} {rest : List Oper} {o : Oper} {a : Act} {Q : Exit → Act → World → Prop} (hgd : o.guard = none) (s x : Operand)
    (ho : o.op = .call { callee := .builtin .append, args := #[s, x], argTypes := #[39, 39] }) {A : Option Addr} {n c : Nat} {xs : List Int} (h : Qu w A n c xs) (few : n ≤ 1048576) (y : Int) (ad : Addr) (k : Nat)
    (hs : a.eval s = .slice A n c) (hx : a.eval x = .slice (some ad) 1 k) (hc : w.cell? ad = some (.int .i64 y))
    (hK : ∀ A' c' w', Qu w' A' (n + 1) c' (xs ++ [y]) → Grw A A' w w' → wpList Tryz.prog ops Q rest (a.put o.dst (.slice A' (n + 1) c')) w') : wpList Tryz.prog ops Q (o :: rest) a w := by
  refine wpList_plain hgd fun K hK' => ?_
  obtain ⟨A', c', w', hrun, q, g⟩ := h.append few y ad k hc o.type
  unfold Oper.wp execOp
  simp only [ho, resolve, invoke, builtin, Sem.run_bind, Sem.run_pure, Result.andThen_ok, List.map_toArray, List.map_cons, List.map_nil, hs, hx, hrun]
  exact hK' _ _ (hK A' c' w' q g)

theorem wpList_copy_qu (w : World) {ops : Array Oper} {rest : List Oper} {o : Oper} {a : Act} {Q : Exit → Act → World → Prop} (hgd : o.guard = none) (s x : Operand)
    (ho : o.op = .call { callee := .builtin .append, args := #[s, x], argTypes := #[39, 39] }) {A : Option Addr} {n c : Nat} {xs : List Int} (h : Qu w A n c xs) (few : n ≤ 1048576)
    (hs : a.eval s = .slice A 0 0) (hx : a.eval x = .slice A n c)
    (hK : ∀ A' c' w', Qu w' A' n c' xs → Below w.heap.size w w' → (0 < n → ∀ k, blkOf A' = some k → w.heap.size ≤ k) → wpList Tryz.prog ops Q rest (a.put o.dst (.slice A' n c')) w') : wpList Tryz.prog ops Q (o :: rest) a w := by
  refine wpList_plain hgd fun K hK' => ?_
  obtain ⟨A', c', w', hrun, q, g, hf⟩ := h.copy few o.type
  unfold Oper.wp execOp
  simp only [ho, resolve, invoke, builtin, Sem.run_bind, Sem.run_pure, Result.andThen_ok, List.map_toArray, List.map_cons, List.map_nil, hs, hx, hrun]
  exact hK' _ _ (hK A' c' w' q g hf)
end Go.Proofs.YthmhehehomieiaaGreat

/- Contract of the document's Starts: the places of what is in use, in a part, in order. -/
namespace Go.Proofs.YthmhehehomieiaaGreat
open Go.RowKit

def inR (f t : Int) (c : Rc) : Bool := c.used && decide (f ≤ c.pos) && decide (c.pos < t)

theorem ints_length (ys : List Int) : (ints ys).length = ys.length := by simp [ints]

/-- v is a slice of a block made since base, which holds ys. -/
def OwnI (w : World) (base : Nat) (v : Value) (ys : List Int) : Prop := w.ownsRow base 3 1 v ys.length (ints ys)

theorem OwnI.at_ {w : World} {base : Nat} {v : Value} {ys : List Int} (h : OwnI w base v ys) : ∃ ao cap, v = .slice ao ys.length cap ∧ ∀ (i : Nat) (y : Int), ys[i]? = some y → ∃ g, ao = some ⟨g, 0, none⟩ ∧ base ≤ g ∧ g < w.heap.size ∧ (∀ (j : Nat) (z : Int), ys[j]? = some z → w.cell? ⟨g, j, none⟩ = some (.int .i64 z)) ∧ (∀ k, w.frozen? ⟨g, k, none⟩ = false) := by
  rcases h.2 with ⟨rfl, h0⟩ | ⟨g, cap, cur, rfl, hb, hg, hn, hm, hs, ht⟩
  · refine ⟨none, 0, by rw [h0], fun i c hi => ?_⟩
    obtain ⟨hh, _⟩ := List.getElem?_eq_some_iff.1 hi
    omega
  · have hB : Blk w g cur 3 := hg
    refine ⟨some ⟨g, 0, none⟩, cap, rfl, fun i c hi => ⟨g, rfl, hb, hB.lt, fun j z hj => ?_, hB.frozen⟩⟩
    have hjl : j < ys.length := (List.getElem?_eq_some_iff.1 hj).1
    have e : (ints ys)[j]? = some (.int .i64 z) := by simp [ints, hj]
    rw [hB.cell, ← e, ← ht, List.getElem?_take_of_lt (by omega), Array.getElem?_toList]

theorem OwnI.set_ {w : World} {base g cap n : Nat} {ys : List Int} (h : OwnI w base (.slice (some ⟨g, 0, none⟩) n cap) ys) (i : Nat) (y : Int) :
    OwnI (w.setCell ⟨g, i, none⟩ (.int .i64 y)) base (.slice (some ⟨g, 0, none⟩) n cap) (ys.set i y) := by
  rcases h.2 with ⟨e, _⟩ | ⟨g', cap', cur, e, hb, hg, hn, hm, hs, ht⟩
  · cases e
  · cases e
    have hB : Blk w g cur 3 := hg
    refine ⟨by simp [ints], .inr ⟨g, cap, cur.setIfInBounds i (.int .i64 y), by rw [List.length_set], hb, hB.set_ i _, by rw [List.length_set]; exact hn, hm, by simpa using hs, ?_⟩⟩
    rw [List.length_set, Array.toList_setIfInBounds, List.take_set, ht]
    simp [ints, List.map_set]

theorem OwnI.below {w w' : World} {base : Nat} {v : Value} {ys : List Int} (h : OwnI w base v ys) (b : Below w.heap.size w w') : OwnI w' base v ys := by
  refine ⟨h.1, h.2.imp id ?_⟩
  rintro ⟨g, cap, cur, e1, e2, e3, e4⟩
  exact ⟨g, cap, cur, e1, e2, (b.block g (Array.getElem?_eq_some_iff.1 e3).1).trans e3, e4⟩

/-- A list that is sorted but for one place. -/
theorem place_end {A B : List Int} {x : Int} (hs : (A ++ B).Pairwise (· ≤ ·)) (hb : ∀ b ∈ B, x ≤ b) (ha : ∀ y, A.getLast? = some y → y ≤ x) : (A ++ x :: B).Pairwise (· ≤ ·) := by
  rw [List.pairwise_append] at hs ⊢
  obtain ⟨h1, h2, h3⟩ := hs
  have hA : ∀ a ∈ A, a ≤ x := by
    rcases List.eq_nil_or_concat A with rfl | ⟨A', y, rfl⟩
    · intro a ha; simp at ha
    · have hy := ha y (by simp)
      intro a ham
      rw [List.concat_eq_append] at h1 ham
      rw [List.pairwise_append] at h1
      rcases List.mem_append.1 ham with h | h
      · exact Int.le_trans (h1.2.2 a h y (by simp)) hy
      · obtain rfl : a = y := by simpa using h
        exact hy
  refine ⟨h1, List.pairwise_cons.2 ⟨hb, h2⟩, fun a ha' b hb' => ?_⟩
  rcases List.mem_cons.1 hb' with rfl | h
  · exact hA a ha'
  · exact Int.le_trans (hA a ha') (hb b h)

theorem below_grown {w W w1 : World} {v : Value} {e : TypeId} {k n : Nat} {xs : List Value} (b : Below w.heap.size w W) (ho : W.ownsRow w.heap.size e k v n xs) (hg : W.grownBy w1 v.ownBlock) : Below w.heap.size w w1 :=
  b.trans ⟨hg.os, hg.tape, hg.output, hg.size, fun i hi => hg.block i (Nat.lt_of_lt_of_le hi b.size) fun e => by
    have := (ho.lt i e.symm).1
    omega⟩

theorem own_nil (w : World) : OwnI (w.alloc (.cells #[] 3)) w.heap.size (.slice (some ⟨w.heap.size, 0, none⟩) 0 0) [] :=
  ⟨rfl, .inr ⟨w.heap.size, 0, #[], rfl, Nat.le_refl _, Blk.new w _ _, Nat.le_refl _, Nat.zero_le _, rfl, rfl⟩⟩

theorem filter_snoc {cs : List Rc} {j : Nat} {c : Rc} (h : cs[j]? = some c) (f t : Int) : ((cs.take (j + 1)).filter (inR f t)).map Rc.pos = ((cs.take j).filter (inR f t)).map Rc.pos ++ (if inR f t c then [c.pos] else []) := by
  rw [take_snoc h, List.filter_append, List.map_append]
  congr 1
  cases e : inR f t c <;> simp [e]

theorem OwnI.snoc {w : World} {base : Nat} {v : Value} {ys : List Int} {x : Int} (h : w.ownsRow base 3 1 v (ys.length + 1) (ints ys ++ [.int .i64 x])) : OwnI w base v (ys ++ [x]) := by
  unfold OwnI
  rw [List.length_append, List.length_singleton, show ints (ys ++ [x]) = ints ys ++ [.int .i64 x] from by simp [ints]]
  exact h

theorem get_mid (A B : List Int) (y x : Int) : ((A ++ [y]) ++ x :: B)[A.length]? = some y ∧ ((A ++ [y]) ++ x :: B)[A.length + 1]? = some x := by
  constructor
  · simp
  · rw [List.getElem?_append_right (by simp)]; simp

theorem set_mid (A B : List Int) (y x : Int) : (((A ++ [y]) ++ x :: B).set A.length x).set (A.length + 1) y = A ++ x :: y :: B := by
  simp

theorem starts_done {ys A B L M : List Int} {x : Int} (hAB : ys = A ++ B) (h : ys.Pairwise (· ≤ ·) ∧ ys.Perm L) (hb : ∀ b ∈ B, x ≤ b) (ha : ∀ y, A.getLast? = some y → y ≤ x) (hM : M = L ++ [x]) :
    (A ++ x :: B).Pairwise (· ≤ ·) ∧ (A ++ x :: B).Perm M := by
  subst hAB hM
  refine ⟨place_end h.1 hb ha, ?_⟩
  refine List.Perm.trans List.perm_middle ?_
  exact (List.Perm.cons x h.2).trans (List.perm_append_singleton x L).symm

end Go.Proofs.YthmhehehomieiaaGreat

/- Contract of the document's Give. -/
namespace Go.Proofs.YthmhehehomieiaaGreat
open Go.RowKit

theorem rcV_set (cs : List Rc) (i : Nat) (c : Rc) (x : Bool) (h : cs[i]? = some c) : rcV (cs.set i { c with used := x }) = (rcV cs).set (i * 4 + 2) (.bool x) := by
  induction cs generalizing i with
  | nil => simp at h
  | cons d cs ih =>
    cases i with
    | zero =>
      obtain rfl : d = c := by simpa using h
      simp [rcV, Rc.vs]
    | succ i =>
      have := ih i (by simpa using h)
      simp only [rcV, List.set_cons_succ, List.flatMap_cons] at this ⊢
      rw [this, List.set_append_right _ _ (by simp [Rc.vs]; omega)]
      congr 2
      simp [Rc.vs]
      omega


/-- Is something in use that begins in page n? -/
def someB (F G n : Int) (cs : List Rc) : Bool := cs.any fun c => decide (ofI F G c.pos = n) && c.used

theorem someB_snoc (F G n : Int) (cs : List Rc) (c : Rc) : someB F G n (cs ++ [c]) = (someB F G n cs || (decide (ofI F G c.pos = n) && c.used)) := by simp [someB]

def otherB (F G n : Int) (c : Rc) : Bool := !decide (ofI F G c.pos = n)

/-- What is left of the cells when something is given back. -/
def giveC (F G n : Int) (cs : List Rc) : List Rc := match cs.findIdx? (hitB n) with
  | none => cs
  | some i =>
    let ds := cs.modify i fun c => { c with used := false }
    if someB F G (ofI F G n) ds then ds else ds.filter (otherB F G (ofI F G n))

def giveP (F G n : Int) (cs : List Rc) (ps : List Bool) : List Bool := match cs.findIdx? (hitB n) with
  | none => ps
  | some i => if someB F G (ofI F G n) (cs.modify i fun c => { c with used := false }) then ps else ps.set (ofI F G n).toNat false


theorem rcV_snoc (cs : List Rc) (c : Rc) : rcV (cs ++ [c]) = rcV cs ++ c.vs := by simp [rcV]

theorem modify_set {α : Type} (cs : List α) (i : Nat) (c : α) (f : α → α) (h : cs[i]? = some c) : cs.modify i f = cs.set i (f c) := by
  induction cs generalizing i with
  | nil => simp at h
  | cons d cs ih =>
    cases i with
    | zero => obtain rfl : d = c := by simpa using h
              rfl
    | succ i => simpa using ih i (by simpa using h)


theorem cell_news (w : World) (c : Rc) (t : TypeId) : ∀ j u, c.vs[j]? = some u → (w.alloc (.cells #[.int .i64 c.pos, .int .i64 c.words, .bool c.used, .bool c.large] t)).cell? ((⟨w.heap.size, 0, none⟩ : Addr).add j) = some u := by
  intro j u hj
  have e : (⟨w.heap.size, 0, none⟩ : Addr).add j = ⟨w.heap.size, j, none⟩ := by
    unfold Addr.add
    by_cases h : j = 0
    · subst h; simp
    · simp [h]
  rw [e, (Blk.new w _ _).cell, ← hj]
  simp [Rc.vs]

theorem vs_one (c : Rc) : ∀ u ∈ c.vs, u.oneCell' = true := by
  intro u hu
  simp only [Rc.vs, List.mem_cons, List.not_mem_nil, or_false] at hu
  rcases hu with rfl | rfl | rfl | rfl <;> rfl

theorem other_snoc {ds : List Rc} {k : Nat} {d : Rc} (h : ds[k]? = some d) (F G q : Int) : (ds.take (k + 1)).filter (otherB F G q) = (ds.take k).filter (otherB F G q) ++ (if otherB F G q d then [d] else []) := by
  rw [take_snoc h, List.filter_append]
  congr 1
  cases e : otherB F G q d <;> simp [e]

theorem ownsRow_base {w : World} {B : Nat} {e : TypeId} {k : Nat} {v : Value} {n : Nat} {xs : List Value} (h : w.ownsRow B e k v n xs) : w.ownsRow 0 e k v n xs := by
  refine ⟨h.1, h.2.imp id ?_⟩
  rintro ⟨g, cap, cur, e1, _, e3⟩
  exact ⟨g, cap, cur, e1, Nat.zero_le _, e3⟩

theorem ownsRow_below {w w' : World} {B : Nat} {e : TypeId} {k : Nat} {v : Value} {n : Nat} {xs : List Value} (h : w.ownsRow B e k v n xs) (b : Below w.heap.size w w') : w'.ownsRow B e k v n xs := by
  refine ⟨h.1, h.2.imp id ?_⟩
  rintro ⟨g, cap, cur, e1, e2, e3, e4⟩
  exact ⟨g, cap, cur, e1, e2, (b.block g (Array.getElem?_eq_some_iff.1 e3).1).trans e3, e4⟩

theorem row_nil (w : World) (t : TypeId) (k : Nat) : (w.alloc (.cells #[] t)).ownsRow w.heap.size t k (.slice (some ⟨w.heap.size, 0, none⟩) 0 0) 0 [] :=
  ⟨by simp, .inr ⟨w.heap.size, 0, #[], rfl, Nat.le_refl _, Blk.new w _ _, Nat.le_refl _, Nat.zero_le _, by simp, by simp⟩⟩

theorem ownsRow_form {w : World} {B : Nat} {e : TypeId} {k : Nat} {v : Value} {n : Nat} {xs : List Value} (h : w.ownsRow B e k v n xs) : ∃ ao cap, v = .slice ao n cap := by
  rcases h.2 with ⟨rfl, rfl⟩ | ⟨g, cap, cur, rfl, _⟩
  · exact ⟨none, 0, rfl⟩
  · exact ⟨_, cap, rfl⟩

/-- What the document's space may turn. -/
def Rf (a pb : Nat) (v : Value) (k : Nat) : Prop := k = a ∨ k = pb ∨ v.ownBlock = some k

end Go.Proofs.YthmhehehomieiaaGreat

/- Contract of the document's Take: of nothing, and of what is large. -/
namespace Go.Proofs.YthmhehehomieiaaGreat
open Go.RowKit



theorem grown_frm {W w1 : World} {a pb : Nat} {v : Value} (hg : W.grownBy w1 v.ownBlock) : Frm (Rf a pb v) W w1 :=
  ⟨hg.os, hg.tape, hg.output, hg.size, fun k hk hn => hg.block k hk fun e => hn (Or.inr (Or.inr e.symm))⟩



/-- Are C pages from p on free? -/
def runB (F G : Int) (cs : List Rc) (p C : Nat) : Bool := (List.range C).all fun k => freeB F G cs ((p + k : Nat) : Int)

/-- What Take of something large does: the first pages side by side that are free. -/
def TakeL (F G : Int) (N : Nat) (cs : List Rc) (C : Nat) (e : Value) (cs' : List Rc) : Prop :=
  (∃ p, p + C ≤ N ∧ runB F G cs p C = true ∧ (∀ q, q < p → runB F G cs q C = false) ∧ e = .tuple #[.int .i64 (F + p * G), .bool true] ∧ cs' = cs ++ [⟨F + p * G, C * G, true, true⟩]) ∨
  ((∀ q, q + C ≤ N → runB F G cs q C = false) ∧ e = .tuple #[.int .i64 0, .bool false] ∧ cs' = cs)


theorem runB_succ (F G : Int) (cs : List Rc) (p k : Nat) : runB F G cs p (k + 1) = (runB F G cs p k && freeB F G cs ((p + k : Nat) : Int)) := by
  simp [runB, List.range_succ]

end Go.Proofs.YthmhehehomieiaaGreat

/- Contract of the document's Take of what is not large. -/
namespace Go.Proofs.YthmhehehomieiaaGreat
open Go.RowKit

/-- A cell of a block of that size which is not in use, in a page that is not pending. -/
def candB (F G : Int) (ps : List Bool) (s : Int) (c : Rc) : Bool := !c.used && !c.large && decide (c.words = s) && !((ps[(ofI F G c.pos).toNat]?).getD false)

/-- The first of them among the first j, as the loop knows it. -/
def Best (F G : Int) (ps : List Bool) (s : Int) (cs : List Rc) (j : Nat) (b : Int) : Prop :=
  (b = -1 ∧ ∀ (i : Nat) c, i < j → cs[i]? = some c → candB F G ps s c = false) ∨
  (∃ (k : Nat) (c : Rc), b = k ∧ cs[k]? = some c ∧ candB F G ps s c = true ∧ ∀ (i : Nat) d, i < j → cs[i]? = some d → candB F G ps s d = true → c.pos ≤ d.pos)

theorem Best.skip {F G : Int} {ps : List Bool} {s : Int} {cs : List Rc} {j : Nat} {b : Int} {c : Rc} (h : Best F G ps s cs j b) (hc : cs[j]? = some c) (hn : candB F G ps s c = false) : Best F G ps s cs (j + 1) b := by
  rcases h with ⟨h0, h1⟩ | ⟨k, d, h0, h1, h2, h3⟩
  · refine Or.inl ⟨h0, fun i x hi hx => ?_⟩
    by_cases e : i = j
    · subst e; obtain rfl : c = x := by have := hc.symm.trans hx; simpa using this
      exact hn
    · exact h1 i x (by omega) hx
  · refine Or.inr ⟨k, d, h0, h1, h2, fun i x hi hx hcx => ?_⟩
    by_cases e : i = j
    · subst e; obtain rfl : c = x := by have := hc.symm.trans hx; simpa using this
      rw [hn] at hcx; cases hcx
    · exact h3 i x (by omega) hx hcx

theorem Best.first {F G : Int} {ps : List Bool} {s : Int} {cs : List Rc} {j : Nat} {c : Rc} (h : Best F G ps s cs j (-1)) (hc : cs[j]? = some c) (hy : candB F G ps s c = true) : Best F G ps s cs (j + 1) j := by
  rcases h with ⟨_, h1⟩ | ⟨k, d, h0, _⟩
  · refine Or.inr ⟨j, c, rfl, hc, hy, fun i x hi hx hcx => ?_⟩
    by_cases e : i = j
    · subst e; obtain rfl : c = x := by have := hc.symm.trans hx; simpa using this
      exact Int.le_refl _
    · rw [h1 i x (by omega) hx] at hcx; cases hcx
  · omega

theorem Best.less {F G : Int} {ps : List Bool} {s : Int} {cs : List Rc} {j k : Nat} {c d : Rc} (h : Best F G ps s cs j (k : Int)) (hd : cs[k]? = some d) (hc : cs[j]? = some c) (hy : candB F G ps s c = true) (lt : c.pos < d.pos) : Best F G ps s cs (j + 1) j := by
  rcases h with ⟨h0, _⟩ | ⟨k', d', h0, h1, h2, h3⟩
  · omega
  · obtain rfl : k = k' := by omega
    obtain rfl : d = d' := by have := hd.symm.trans h1; simpa using this
    refine Or.inr ⟨j, c, rfl, hc, hy, fun i x hi hx hcx => ?_⟩
    by_cases e : i = j
    · subst e; obtain rfl : c = x := by have := hc.symm.trans hx; simpa using this
      exact Int.le_refl _
    · have := h3 i x (by omega) hx hcx
      omega

theorem Best.more {F G : Int} {ps : List Bool} {s : Int} {cs : List Rc} {j k : Nat} {c d : Rc} (h : Best F G ps s cs j (k : Int)) (hd : cs[k]? = some d) (hc : cs[j]? = some c) (ge : ¬ c.pos < d.pos) : Best F G ps s cs (j + 1) k := by
  rcases h with ⟨h0, _⟩ | ⟨k', d', h0, h1, h2, h3⟩
  · omega
  · obtain rfl : k = k' := by omega
    obtain rfl : d = d' := by have := hd.symm.trans h1; simpa using this
    refine Or.inr ⟨k, d, rfl, hd, h2, fun i x hi hx hcx => ?_⟩
    by_cases e : i = j
    · subst e; obtain rfl : c = x := by have := hc.symm.trans hx; simpa using this
      omega
    · exact h3 i x (by omega) hx hcx

/-- The cells of a new block. -/
def newC (p s : Int) (k : Nat) : List Rc := (List.range k).map fun (i : Nat) => ⟨p + i * s, s, decide (i = 0), false⟩

theorem newC_succ (p s : Int) (k : Nat) : newC p s (k + 1) = newC p s k ++ [⟨p + k * s, s, decide (k = 0), false⟩] := by simp [newC, List.range_succ]

/-- What Take of something that is not large does. -/
def TakeS (F G : Int) (N : Nat) (ps : List Bool) (cs : List Rc) (s : Int) (e : Value) (cs' : List Rc) : Prop :=
  (∃ (b : Nat) (c : Rc), cs[b]? = some c ∧ candB F G ps s c = true ∧ (∀ d ∈ cs, candB F G ps s d = true → c.pos ≤ d.pos) ∧ e = .tuple #[.int .i64 c.pos, .bool true] ∧ cs' = cs.set b { c with used := true }) ∨
  ((∀ c ∈ cs, candB F G ps s c = false) ∧
    ((∃ p : Nat, p < N ∧ freeB F G cs p = true ∧ (∀ q : Nat, q < p → freeB F G cs q = false) ∧ e = .tuple #[.int .i64 (F + p * G), .bool true] ∧ cs' = cs ++ newC (F + p * G) s (G / s).toNat) ∨
    ((∀ q : Nat, q < N → freeB F G cs q = false) ∧ e = .tuple #[.int .i64 0, .bool false] ∧ cs' = cs)))

end Go.Proofs.YthmhehehomieiaaGreat

/- Pages as a list of what each one is; the document's cells as what such pages hold. Of numbers and lists alone. -/
namespace Go.Proofs.YthmhehehomieiaaGreat

/-- A page is free; or a block of cells of one size, each in use or not; or the first of c pages of something large; or another one of those. -/
inductive Pg where
  | free
  | blk (s : Int) (us : List Bool)
  | big (c : Nat)
  | rest

/-- The cells that begin in page i. -/
def Pg.cells (F G : Int) (i : Nat) : Pg → List Rc
  | .free => []
  | .rest => []
  | .big c => [⟨F + i * G, c * G, true, true⟩]
  | .blk s us => (List.range us.length).map fun (j : Nat) => ⟨F + i * G + j * s, s, us.getD j false, false⟩

def cellsP (F G : Int) (pgs : List Pg) : List Rc := (List.range pgs.length).flatMap fun i => (pgs.getD i .free).cells F G i

/-- What is asked of pages. -/
structure WF (G : Int) (pgs : List Pg) : Prop where
  blk : ∀ (i : Nat) (s : Int) (us : List Bool), pgs[i]? = some (.blk s us) → 4 ≤ s ∧ s ≤ G / 2 ∧ (us.length : Int) = G / s ∧ true ∈ us
  big : ∀ (i c : Nat), pgs[i]? = some (.big c) → 1 ≤ c ∧ i + c ≤ pgs.length ∧ ∀ j : Nat, i < j → j < i + c → pgs[j]? = some .rest
  rest : ∀ j : Nat, pgs[j]? = some .rest → ∃ i c : Nat, i < j ∧ j < i + c ∧ pgs[i]? = some (.big c)

theorem ofI_at {F G : Int} (g0 : 1 ≤ G) (i : Nat) (x : Int) (x0 : 0 ≤ x) (x1 : x < G) : ofI F G (F + i * G + x) = i := by
  unfold ofI
  have e : F + (i : Int) * G + x - F = x + (i : Int) * G := by omega
  have p : (0 : Int) ≤ (i : Int) * G := Int.mul_nonneg (by omega) (by omega)
  rw [e, tdiv_of (by omega), Int.add_mul_ediv_right _ _ (by omega), Int.ediv_eq_zero_of_lt x0 x1]
  omega

theorem mem_cellsP {F G : Int} {pgs : List Pg} {c : Rc} : c ∈ cellsP F G pgs ↔ ∃ (i : Nat) (x : Pg), pgs[i]? = some x ∧ c ∈ x.cells F G i := by
  unfold cellsP
  rw [List.mem_flatMap]
  constructor
  · rintro ⟨i, hi, hc⟩
    have hi := List.mem_range.1 hi
    refine ⟨i, pgs[i], List.getElem?_eq_getElem hi, ?_⟩
    rwa [List.getD_eq_getElem?_getD, List.getElem?_eq_getElem hi] at hc
  · rintro ⟨i, x, hx, hc⟩
    have hi := (List.getElem?_eq_some_iff.1 hx).1
    refine ⟨i, List.mem_range.2 hi, ?_⟩
    rwa [List.getD_eq_getElem?_getD, hx]

theorem mem_blk {F G : Int} {i : Nat} {s : Int} {us : List Bool} {c : Rc} : c ∈ (Pg.blk s us).cells F G i ↔ ∃ (j : Nat) (u : Bool), us[j]? = some u ∧ c = ⟨F + i * G + j * s, s, u, false⟩ := by
  simp only [Pg.cells, List.mem_map, List.mem_range]
  constructor
  · rintro ⟨j, hj, rfl⟩
    exact ⟨j, us[j], List.getElem?_eq_getElem hj, by rw [List.getD_eq_getElem?_getD, List.getElem?_eq_getElem hj]; rfl⟩
  · rintro ⟨j, u, hu, rfl⟩
    have hj := (List.getElem?_eq_some_iff.1 hu).1
    exact ⟨j, hj, by rw [List.getD_eq_getElem?_getD, hu]; rfl⟩

/-- A cell of a block lies within its page. -/
theorem in_page {G s : Int} {us : List Bool} {j : Nat} (s0 : 4 ≤ s) (hl : (us.length : Int) = G / s) (hj : j < us.length) : 0 ≤ (j : Int) * s ∧ (j : Int) * s + s ≤ G := by
  have h0 : (0 : Int) ≤ (j : Int) * s := Int.mul_nonneg (by omega) (by omega)
  have h1 := Int.mul_le_mul_of_nonneg_right (show (j : Int) + 1 ≤ G / s by omega) (show 0 ≤ s by omega)
  have h2 := Int.ediv_mul_le G (show s ≠ 0 by omega)
  rw [Int.add_mul, Int.one_mul] at h1
  omega

/-- Which pages a cell takes. -/
theorem cell_pages {F G : Int} {pgs : List Pg} (g0 : 1 ≤ G) (wf : WF G pgs) {i : Nat} {x : Pg} {c : Rc} (hx : pgs[i]? = some x) (hc : c ∈ x.cells F G i) :
    ofI F G c.pos = i ∧ ∃ k : Nat, 1 ≤ k ∧ ofI F G (c.pos + c.words - 1) = i + k - 1 ∧ ((k = 1 ∧ ∃ s us, x = .blk s us) ∨ x = .big k) := by
  cases x with
  | free => simp [Pg.cells] at hc
  | rest => simp [Pg.cells] at hc
  | big k =>
    obtain rfl : c = ⟨F + i * G, k * G, true, true⟩ := by simpa [Pg.cells] using hc
    obtain ⟨k1, _, _⟩ := wf.big i k hx
    have e := ofI_at (F := F) g0 i 0 (by omega) (by omega)
    rw [Int.add_zero] at e
    refine ⟨e, k, k1, ?_, Or.inr rfl⟩
    have e2 := ofI_at (F := F) g0 (i + k - 1) (G - 1) (by omega) (by omega)
    have m : ((i + k - 1 : Nat) : Int) * G = i * G + k * G - G := by
      rw [show ((i + k - 1 : Nat) : Int) = (i : Int) + k - 1 by omega, Int.sub_mul, Int.add_mul, Int.one_mul]
    rw [m] at e2
    show ofI F G (F + i * G + k * G - 1) = _
    rw [show F + (i : Int) * G + (k : Int) * G - 1 = F + ((i : Int) * G + (k : Int) * G - G) + (G - 1) by omega, e2]
    omega
  | blk s us =>
    obtain ⟨j, u, hu, rfl⟩ := mem_blk.1 hc
    obtain ⟨s0, s1, hl, _⟩ := wf.blk i s us hx
    obtain ⟨p0, p1⟩ := in_page s0 hl (List.getElem?_eq_some_iff.1 hu).1
    refine ⟨ofI_at g0 i _ p0 (by omega), 1, Nat.le_refl _, ?_, Or.inl ⟨rfl, s, us, rfl⟩⟩
    show ofI F G (F + i * G + j * s + s - 1) = _
    rw [show F + (i : Int) * G + (j : Int) * s + s - 1 = F + (i : Int) * G + ((j : Int) * s + s - 1) by omega, ofI_at g0 i _ (by omega) (by omega)]
    omega

/-- A page is free just if nothing lies in it. -/
theorem freeB_iff {F G : Int} {cs : List Rc} {pgs : List Pg} (g0 : 1 ≤ G) (wf : WF G pgs) (hp : cs.Perm (cellsP F G pgs)) {n : Nat} (hn : n < pgs.length) : freeB F G cs n = true ↔ pgs[n]? = some .free := by
  rw [freeB, List.all_eq_true]
  have hx : pgs[n]? = some pgs[n] := List.getElem?_eq_getElem hn
  constructor
  · intro h
    have no : ∀ (i : Nat) (x : Pg) (c : Rc) (k : Nat), pgs[i]? = some x → c ∈ x.cells F G i → ofI F G c.pos = i → ofI F G (c.pos + c.words - 1) = ((i + k - 1 : Nat) : Int) → i ≤ n → n ≤ i + k - 1 → False := fun i x c k hx hc h1 h2 h3 h4 => by
      have := h c (hp.mem_iff.2 (mem_cellsP.2 ⟨i, x, hx, hc⟩))
      rw [onB, h1, h2, decide_eq_true (by omega), decide_eq_true (by omega)] at this
      simp at this
    cases hg : pgs[n] with
    | free => rw [hx, hg]
    | rest =>
      rw [hg] at hx
      obtain ⟨i, k, hi1, hi2, hb⟩ := wf.rest n hx
      have hc : (⟨F + i * G, k * G, true, true⟩ : Rc) ∈ (Pg.big k).cells F G i := by simp [Pg.cells]
      obtain ⟨e1, k', k1, e2, e3⟩ := cell_pages g0 wf hb hc
      rcases e3 with ⟨_, s, us, e⟩ | e
      · cases e
      · cases e
        exact (no i _ _ k hb hc e1 (by omega) (by omega) (by omega)).elim
    | big k =>
      rw [hg] at hx
      have hc : (⟨F + n * G, k * G, true, true⟩ : Rc) ∈ (Pg.big k).cells F G n := by simp [Pg.cells]
      obtain ⟨e1, k', k1, e2, _⟩ := cell_pages g0 wf hx hc
      exact (no n _ _ k' hx hc e1 (by omega) (by omega) (by omega)).elim
    | blk s us =>
      rw [hg] at hx
      obtain ⟨_, _, _, ht⟩ := wf.blk n s us hx
      obtain ⟨j, hj, he⟩ := List.getElem_of_mem ht
      have hc : (⟨F + n * G + j * s, s, true, false⟩ : Rc) ∈ (Pg.blk s us).cells F G n := mem_blk.2 ⟨j, true, by rw [List.getElem?_eq_getElem hj, he], rfl⟩
      obtain ⟨e1, k', k1, e2, _⟩ := cell_pages g0 wf hx hc
      exact (no n _ _ k' hx hc e1 (by omega) (by omega) (by omega)).elim
  · intro h c hc
    obtain ⟨i, x, hi, hcx⟩ := mem_cellsP.1 (hp.mem_iff.1 hc)
    obtain ⟨e1, k, k1, e2, e3⟩ := cell_pages g0 wf hi hcx
    rw [onB, e1, e2]
    have off : ¬ (i ≤ n ∧ n < i + k) := by
      rintro ⟨a1, a2⟩
      by_cases e : i = n
      · subst e
        rw [h] at hi
        cases hi
        simp [Pg.cells] at hcx
      · rcases e3 with ⟨e4, _⟩ | e4
        · omega
        · subst e4
          have := (wf.big i k hi).2.2 n (by omega) (by omega)
          rw [h] at this
          cases this
    by_cases a1 : (i : Int) ≤ (n : Int)
    · rw [decide_eq_false (show ¬ (n : Int) ≤ (i : Int) + k - 1 by omega), Bool.and_false]
      rfl
    · rw [decide_eq_false a1, Bool.false_and]
      rfl
end Go.Proofs.YthmhehehomieiaaGreat

/- What turns of the cells when a page turns: cells are the pages' up to their order. Of numbers and lists alone. -/
namespace Go.Proofs.YthmhehehomieiaaGreat

/-- The cells are those of the pages, in any order. -/
structure Rel (F G : Int) (cs : List Rc) (pgs : List Pg) : Prop where
  perm : cs.Perm (cellsP F G pgs)
  wf : WF G pgs

theorem flatMap_ext {α β : Type} {l : List α} {f g : α → List β} (h : ∀ x ∈ l, f x = g x) : l.flatMap f = l.flatMap g := by
  induction l with
  | nil => rfl
  | cons a l ih => rw [List.flatMap_cons, List.flatMap_cons, h a (List.mem_cons_self ..), ih fun x hx => h x (List.mem_cons_of_mem _ hx)]

theorem set_same {α : Type} {l : List α} {p : Nat} {x : α} (h : l[p]? = some x) : l.set p x = l := by
  apply List.ext_getElem?
  intro i
  by_cases e : i = p
  · subst e; rw [List.getElem?_set_self (List.getElem?_eq_some_iff.1 h).1, h]
  · rw [List.getElem?_set_ne (by omega)]

theorem perm_set {cs L R : List Rc} {b : Nat} {c c' : Rc} (hb : cs[b]? = some c) (hp : cs.Perm (L ++ c :: R)) : (cs.set b c').Perm (L ++ c' :: R) := by
  have aux : ∀ (cs : List Rc) (b : Nat), cs[b]? = some c → cs.Perm (c :: cs.eraseIdx b) ∧ (cs.set b c').Perm (c' :: cs.eraseIdx b) := by
    intro cs
    induction cs with
    | nil => intro b hb; simp at hb
    | cons d cs ih =>
      intro b hb
      cases b with
      | zero =>
        obtain rfl : d = c := by simpa using hb
        exact ⟨List.Perm.refl _, List.Perm.refl _⟩
      | succ b =>
        obtain ⟨h1, h2⟩ := ih b (by simpa using hb)
        simp only [List.eraseIdx_cons_succ, List.set_cons_succ]
        exact ⟨(h1.cons d).trans (List.Perm.swap ..), (h2.cons d).trans (List.Perm.swap ..)⟩
  obtain ⟨h1, h2⟩ := aux cs b hb
  have h3 : (c :: cs.eraseIdx b).Perm (c :: (L ++ R)) := (h1.symm.trans hp).trans List.perm_middle
  exact h2.trans ((h3.cons_inv.cons c').trans List.perm_middle.symm)

/-- One page turns: what begins in other pages stays. -/
theorem cellsP_split (F G : Int) (pgs : List Pg) (p : Nat) (hp : p < pgs.length) :
    ∃ A B : List Rc, (∀ y, cellsP F G (pgs.set p y) = A ++ (y.cells F G p ++ B)) ∧ (∀ c ∈ A ++ B, ∃ (i : Nat) (x : Pg), i ≠ p ∧ pgs[i]? = some x ∧ c ∈ x.cells F G i) := by
  refine ⟨(List.range p).flatMap fun i => (pgs.getD i .free).cells F G i, (List.range' (p + 1) (pgs.length - p - 1)).flatMap fun i => (pgs.getD i .free).cells F G i, fun y => ?_, ?_⟩
  · unfold cellsP
    rw [List.length_set]
    have e : List.range pgs.length = List.range p ++ (p :: List.range' (p + 1) (pgs.length - p - 1)) := by
      rw [List.range_eq_range', List.range_eq_range', show pgs.length = p + (1 + (pgs.length - p - 1)) by omega, ← List.range'_append_1]
      congr 1
      rw [Nat.zero_add, Nat.add_comm 1, List.range'_succ]
      congr 2
      omega
    rw [e, List.flatMap_append, List.flatMap_cons]
    congr 1
    · apply flatMap_ext
      intro i hi
      have := List.mem_range.1 hi
      rw [List.getD_eq_getElem?_getD, List.getElem?_set_ne (by omega), ← List.getD_eq_getElem?_getD]
    · congr 1
      · rw [List.getD_eq_getElem?_getD, List.getElem?_set_self hp]
        rfl
      · apply flatMap_ext
        intro i hi
        have := (List.mem_range'_1.1 hi).1
        rw [List.getD_eq_getElem?_getD, List.getElem?_set_ne (by omega), ← List.getD_eq_getElem?_getD]
  · intro c hc
    have get : ∀ i, i < pgs.length → i ≠ p → c ∈ (pgs.getD i .free).cells F G i → ∃ (i : Nat) (x : Pg), i ≠ p ∧ pgs[i]? = some x ∧ c ∈ x.cells F G i := fun i hi hne h =>
      ⟨i, pgs[i], hne, List.getElem?_eq_getElem hi, by rwa [List.getD_eq_getElem?_getD, List.getElem?_eq_getElem hi] at h⟩
    rcases List.mem_append.1 hc with h | h
    · obtain ⟨i, hi, h⟩ := List.mem_flatMap.1 h
      have := List.mem_range.1 hi
      exact get i (by omega) (by omega) h
    · obtain ⟨i, hi, h⟩ := List.mem_flatMap.1 h
      have := List.mem_range'_1.1 hi
      exact get i (by omega) (by omega) h

/-- A page that is no part of something large turns into one that is none either. -/
theorem WF.turn {G : Int} {pgs : List Pg} (wf : WF G pgs) {p : Nat} {x y : Pg} (hx : pgs[p]? = some x) (h1 : x = .free ∨ ∃ s us, x = .blk s us)
    (h2 : y = .free ∨ ∃ s us, y = .blk s us ∧ 4 ≤ s ∧ s ≤ G / 2 ∧ (us.length : Int) = G / s ∧ true ∈ us) : WF G (pgs.set p y) := by
  have hp := (List.getElem?_eq_some_iff.1 hx).1
  have nb : ∀ c, x ≠ .big c := fun c e => by rcases h1 with h | ⟨s, us, h⟩ <;> rw [h] at e <;> cases e
  have nr : x ≠ .rest := fun e => by rcases h1 with h | ⟨s, us, h⟩ <;> rw [h] at e <;> cases e
  have yb : ∀ c, y ≠ .big c := fun c e => by rcases h2 with h | ⟨s, us, h, _⟩ <;> rw [h] at e <;> cases e
  have yr : y ≠ .rest := fun e => by rcases h2 with h | ⟨s, us, h, _⟩ <;> rw [h] at e <;> cases e
  have at_ : ∀ i : Nat, (pgs.set p y)[i]? = if i = p then some y else pgs[i]? := fun i => by
    by_cases e : i = p
    · subst e; rw [List.getElem?_set_self hp, if_pos rfl]
    · rw [List.getElem?_set_ne (by omega), if_neg e]
  refine ⟨fun i s us h => ?_, fun i c h => ?_, fun j h => ?_⟩
  · rw [at_] at h
    by_cases e : i = p
    · rw [if_pos e] at h
      cases h
      rcases h2 with h | ⟨s', us', h, k⟩
      · cases h
      · cases h; exact k
    · rw [if_neg e] at h
      exact wf.blk i s us h
  · rw [at_] at h
    by_cases e : i = p
    · rw [if_pos e] at h
      exact absurd (Option.some.inj h) (yb c)
    · rw [if_neg e] at h
      obtain ⟨k1, k2, k3⟩ := wf.big i c h
      refine ⟨k1, by rw [List.length_set]; exact k2, fun j j1 j2 => ?_⟩
      have := k3 j j1 j2
      rw [at_, if_neg (fun e => by subst e; rw [hx] at this; exact nr (Option.some.inj this))]
      exact this
  · rw [at_] at h
    by_cases e : j = p
    · rw [if_pos e] at h
      exact absurd (Option.some.inj h) yr
    · rw [if_neg e] at h
      obtain ⟨i, c, i1, i2, i3⟩ := wf.rest j h
      refine ⟨i, c, i1, i2, ?_⟩
      rw [at_, if_neg (fun e => by subst e; rw [hx] at i3; exact nb c (Option.some.inj i3))]
      exact i3

/-- The flags of a new block. -/
def us0 (k : Nat) : List Bool := (List.range k).map fun j => decide (j = 0)

theorem newC_cells (F G s : Int) (p k : Nat) : newC (F + p * G) s k = (Pg.blk s (us0 k)).cells F G p := by
  show _ = (List.range (us0 k).length).map fun (j : Nat) => (⟨F + p * G + j * s, s, (us0 k).getD j false, false⟩ : Rc)
  unfold newC us0
  rw [List.length_map, List.length_range]
  apply List.map_congr_left
  intro j hj
  have := List.mem_range.1 hj
  simp [List.getD_eq_getElem?_getD, this]

/-- A free page becomes a block. -/
theorem Rel.fresh {F G : Int} {cs : List Rc} {pgs : List Pg} (h : Rel F G cs pgs) {p : Nat} {s : Int} (hx : pgs[p]? = some .free) (s0 : 4 ≤ s) (s1 : s ≤ G / 2) :
    Rel F G (cs ++ newC (F + p * G) s (G / s).toNat) (pgs.set p (.blk s (us0 (G / s).toNat))) := by
  have hp := (List.getElem?_eq_some_iff.1 hx).1
  have q2 : 2 ≤ G / s := (Int.le_ediv_iff_mul_le (by omega)).2 (by omega)
  obtain ⟨A, B, e, _⟩ := cellsP_split F G pgs p hp
  refine ⟨?_, h.wf.turn hx (Or.inl rfl) (Or.inr ⟨s, _, rfl, s0, s1, by simp [us0]; omega, ?_⟩)⟩
  · rw [e, newC_cells]
    have e0 := e .free
    rw [show pgs.set p .free = pgs from set_same hx] at e0
    have hp0 := h.perm
    rw [e0] at hp0
    have h1 : (cs ++ (Pg.blk s (us0 (G / s).toNat)).cells F G p).Perm ((A ++ B) ++ (Pg.blk s (us0 (G / s).toNat)).cells F G p) := hp0.append_right _
    refine h1.trans ?_
    rw [List.append_assoc]
    exact List.Perm.append_left A List.perm_append_comm
  · rw [us0, List.mem_map]
    exact ⟨0, List.mem_range.2 (by omega), rfl⟩

theorem blk_split (F G : Int) (p : Nat) (s : Int) (us : List Bool) (j : Nat) (hj : j < us.length) : ∃ L R : List Rc, ∀ u, (Pg.blk s (us.set j u)).cells F G p = L ++ (⟨F + p * G + j * s, s, u, false⟩ : Rc) :: R := by
  refine ⟨(List.range j).map fun (i : Nat) => ⟨F + p * G + i * s, s, us.getD i false, false⟩, (List.range' (j + 1) (us.length - j - 1)).map fun (i : Nat) => ⟨F + p * G + i * s, s, us.getD i false, false⟩, fun u => ?_⟩
  show (List.range (us.set j u).length).map (fun (i : Nat) => (⟨F + p * G + i * s, s, (us.set j u).getD i false, false⟩ : Rc)) = _
  rw [List.length_set]
  have e : List.range us.length = List.range j ++ (j :: List.range' (j + 1) (us.length - j - 1)) := by
    rw [List.range_eq_range', List.range_eq_range', show us.length = j + (1 + (us.length - j - 1)) by omega, ← List.range'_append_1]
    congr 1
    rw [Nat.zero_add, Nat.add_comm 1, List.range'_succ]
    congr 2
    omega
  rw [e, List.map_append, List.map_cons]
  congr 1
  · apply List.map_congr_left
    intro i hi
    have := List.mem_range.1 hi
    rw [List.getD_eq_getElem?_getD, List.getElem?_set_ne (by omega), ← List.getD_eq_getElem?_getD]
  · congr 1
    · rw [List.getD_eq_getElem?_getD, List.getElem?_set_self hj]
      rfl
    · apply List.map_congr_left
      intro i hi
      have := (List.mem_range'_1.1 hi).1
      rw [List.getD_eq_getElem?_getD, List.getElem?_set_ne (by omega), ← List.getD_eq_getElem?_getD]

/-- The cells, one of which has its flag turned, are the pages' with that flag turned. -/
theorem perm_turn {F G : Int} {cs : List Rc} {pgs : List Pg} (h : cs.Perm (cellsP F G pgs)) {p j b : Nat} {s : Int} {us : List Bool} {u : Bool} (hx : pgs[p]? = some (.blk s us)) (hu : us[j]? = some u)
    (hb : cs[b]? = some ⟨F + p * G + j * s, s, u, false⟩) (u' : Bool) : (cs.set b ⟨F + p * G + j * s, s, u', false⟩).Perm (cellsP F G (pgs.set p (.blk s (us.set j u')))) := by
  obtain ⟨A, B, e, _⟩ := cellsP_split F G pgs p (List.getElem?_eq_some_iff.1 hx).1
  obtain ⟨L, R, e2⟩ := blk_split F G p s us j (List.getElem?_eq_some_iff.1 hu).1
  have e0 := e (.blk s us)
  rw [set_same hx] at e0
  have e3 := e2 u
  rw [set_same hu] at e3
  rw [e0, e3] at h
  rw [e, e2 u']
  have h' : cs.Perm ((A ++ L) ++ (⟨F + p * G + j * s, s, u, false⟩ : Rc) :: (R ++ B)) := by simpa using h
  have := perm_set (c' := ⟨F + p * G + j * s, s, u', false⟩) hb h'
  simpa using this

/-- A cell of a block is taken. -/
theorem Rel.reuse {F G : Int} {cs : List Rc} {pgs : List Pg} (h : Rel F G cs pgs) {p j b : Nat} {s : Int} {us : List Bool} {u : Bool} (hx : pgs[p]? = some (.blk s us)) (hu : us[j]? = some u)
    (hb : cs[b]? = some ⟨F + p * G + j * s, s, u, false⟩) : Rel F G (cs.set b ⟨F + p * G + j * s, s, true, false⟩) (pgs.set p (.blk s (us.set j true))) := by
  obtain ⟨k1, k2, k3, _⟩ := h.wf.blk p s us hx
  exact ⟨perm_turn h.perm hx hu hb true, h.wf.turn hx (Or.inr ⟨s, us, rfl⟩) (Or.inr ⟨s, _, rfl, k1, k2, by rw [List.length_set]; exact k3, List.mem_set (List.getElem?_eq_some_iff.1 hu).1 true⟩)⟩

/-- A cell of a block is given back, and another is in use still. -/
theorem Rel.lessen {F G : Int} {cs : List Rc} {pgs : List Pg} (h : Rel F G cs pgs) {p j b : Nat} {s : Int} {us : List Bool} {u : Bool} (hx : pgs[p]? = some (.blk s us)) (hu : us[j]? = some u)
    (hb : cs[b]? = some ⟨F + p * G + j * s, s, u, false⟩) (ht : true ∈ us.set j false) : Rel F G (cs.set b ⟨F + p * G + j * s, s, false, false⟩) (pgs.set p (.blk s (us.set j false))) := by
  obtain ⟨k1, k2, k3, _⟩ := h.wf.blk p s us hx
  exact ⟨perm_turn h.perm hx hu hb false, h.wf.turn hx (Or.inr ⟨s, us, rfl⟩) (Or.inr ⟨s, _, rfl, k1, k2, by rw [List.length_set]; exact k3, ht⟩)⟩

/-- What begins in page p is struck. -/
theorem filter_page {F G : Int} {pgs : List Pg} (g0 : 1 ≤ G) (wf : WF G pgs) {p : Nat} (hp : p < pgs.length) {ds : List Rc} {y : Pg} (hd : ds.Perm (cellsP F G (pgs.set p y))) (hy : ∀ c ∈ y.cells F G p, ofI F G c.pos = p) :
    (ds.filter (otherB F G p)).Perm (cellsP F G (pgs.set p .free)) := by
  obtain ⟨A, B, e, ho⟩ := cellsP_split F G pgs p hp
  rw [e] at hd
  rw [e]
  have h1 := hd.filter (otherB F G p)
  have far : ∀ c ∈ A ++ B, otherB F G p c = true := fun c hc => by
    obtain ⟨i, x, hi, hx, hcx⟩ := ho c hc
    have := (cell_pages g0 wf hx hcx).1
    simp only [otherB, this, Bool.not_eq_true', decide_eq_false_iff_not]
    omega
  have h2 : (A ++ (y.cells F G p ++ B)).filter (otherB F G p) = A ++ B := by
    rw [List.filter_append, List.filter_append, List.filter_eq_self.2 fun c hc => far c (List.mem_append_left _ hc), List.filter_eq_self.2 fun c hc => far c (List.mem_append_right _ hc),
      List.filter_eq_nil_iff.2 fun c hc => by simp [otherB, hy c hc]]
    rfl
  rw [h2] at h1
  exact h1

/-- The last cell in use of a block is given back: the page is free. -/
theorem Rel.empty {F G : Int} {cs : List Rc} {pgs : List Pg} (g0 : 1 ≤ G) (h : Rel F G cs pgs) {p j b : Nat} {s : Int} {us : List Bool} {u : Bool} (hx : pgs[p]? = some (.blk s us)) (hu : us[j]? = some u)
    (hb : cs[b]? = some ⟨F + p * G + j * s, s, u, false⟩) : Rel F G ((cs.set b ⟨F + p * G + j * s, s, false, false⟩).filter (otherB F G p)) (pgs.set p .free) := by
  obtain ⟨k1, k2, k3, _⟩ := h.wf.blk p s us hx
  refine ⟨filter_page g0 h.wf (List.getElem?_eq_some_iff.1 hx).1 (perm_turn h.perm hx hu hb false) fun c hc => ?_, h.wf.turn hx (Or.inr ⟨s, us, rfl⟩) (Or.inl rfl)⟩
  obtain ⟨i, v, hv, rfl⟩ := mem_blk.1 hc
  have hi := (List.getElem?_eq_some_iff.1 hv).1
  rw [List.length_set] at hi
  obtain ⟨p0, p1⟩ := in_page k1 k3 hi
  exact ofI_at g0 p _ p0 (by omega)
end Go.Proofs.YthmhehehomieiaaGreat

/- What the document answers of cells is what the pages say. Of numbers and lists alone. -/
namespace Go.Proofs.YthmhehehomieiaaGreat

theorem perm_sorted {xs ys : List Int} (hp : xs.Perm ys) (hx : xs.Pairwise (· ≤ ·)) (hy : ys.Pairwise (· ≤ ·)) : xs = ys := by
  induction xs generalizing ys with
  | nil => exact (List.nil_perm.1 hp).symm
  | cons a xs ih =>
    cases ys with
    | nil => exact absurd hp.symm (by intro h; have := List.nil_perm.1 h; cases this)
    | cons b ys =>
      obtain ⟨ha, hx2⟩ := List.pairwise_cons.1 hx
      obtain ⟨hb, hy2⟩ := List.pairwise_cons.1 hy
      have ab : a = b := by
        have h1 : a ∈ b :: ys := hp.mem_iff.1 (List.mem_cons_self ..)
        have h2 : b ∈ a :: xs := hp.mem_iff.2 (List.mem_cons_self ..)
        rcases List.mem_cons.1 h1 with h1 | h1
        · exact h1
        · rcases List.mem_cons.1 h2 with h2 | h2
          · exact h2.symm
          · exact Int.le_antisymm (ha b h2) (hb a h1)
      subst ab
      rw [ih hp.cons_inv hx2 hy2]

/-- No two cells begin at one place. -/
theorem pos_unique {F G : Int} {pgs : List Pg} (g0 : 1 ≤ G) (wf : WF G pgs) {c d : Rc} (hc : c ∈ cellsP F G pgs) (hd : d ∈ cellsP F G pgs) (e : c.pos = d.pos) : c = d := by
  obtain ⟨i, x, hx, hcx⟩ := mem_cellsP.1 hc
  obtain ⟨k, y, hy, hdy⟩ := mem_cellsP.1 hd
  have e1 := (cell_pages g0 wf hx hcx).1
  have e2 := (cell_pages g0 wf hy hdy).1
  rw [e, e2] at e1
  obtain rfl : k = i := by omega
  rw [hx] at hy
  cases hy
  cases x with
  | free => simp [Pg.cells] at hcx
  | rest => simp [Pg.cells] at hcx
  | big m =>
    simp only [Pg.cells, List.mem_singleton] at hcx hdy
    rw [hcx, hdy]
  | blk s us =>
    obtain ⟨j, u, hu, rfl⟩ := mem_blk.1 hcx
    obtain ⟨j', u', hu', rfl⟩ := mem_blk.1 hdy
    obtain ⟨s0, _⟩ := wf.blk k s us hx
    have e3 : (j : Int) * s = (j' : Int) * s := by
      have e : F + (k : Int) * G + (j : Int) * s = F + (k : Int) * G + (j' : Int) * s := e
      omega
    obtain rfl : j = j' := by
      have := Int.eq_of_mul_eq_mul_right (show s ≠ 0 by omega) e3
      omega
    rw [hu] at hu'
    cases hu'
    rfl

theorem find_eq {F G : Int} {cs : List Rc} {pgs : List Pg} (g0 : 1 ≤ G) (h : Rel F G cs pgs) (n : Int) : cs.find? (hitB n) = (cellsP F G pgs).find? (hitB n) := by
  cases e1 : cs.find? (hitB n) with
  | none =>
    symm
    rw [List.find?_eq_none] at e1 ⊢
    exact fun c hc => e1 c (h.perm.mem_iff.2 hc)
  | some c =>
    have hc := List.mem_of_find?_eq_some e1
    have hh := List.find?_some e1
    cases e2 : (cellsP F G pgs).find? (hitB n) with
    | none =>
      rw [List.find?_eq_none] at e2
      exact absurd hh (e2 c (h.perm.mem_iff.1 hc))
    | some d =>
      have hd := List.mem_of_find?_eq_some e2
      have hh2 := List.find?_some e2
      simp only [hitB, Bool.and_eq_true, decide_eq_true_eq] at hh hh2
      rw [pos_unique g0 h.wf (h.perm.mem_iff.1 hc) hd (hh.1.trans hh2.1.symm)]

def Pg.isFree : Pg → Bool
  | .free => true
  | _ => false

/-- Is it a block, or the first page of something large? -/
def Pg.first : Pg → Bool
  | .blk _ _ => true
  | .big _ => true
  | _ => false

theorem hasB_at {F G : Int} {cs : List Rc} {pgs : List Pg} (g0 : 1 ≤ G) (h : Rel F G cs pgs) {n : Nat} {x : Pg} (hx : pgs[n]? = some x) : hasR F G cs n = x.first := by
  have no : (∀ c, c ∉ x.cells F G n) → hasR F G cs n = false := fun hno => by
    rw [hasR, List.any_eq_false]
    intro c hc hd
    obtain ⟨i, y, hy, hcy⟩ := mem_cellsP.1 (h.perm.mem_iff.1 hc)
    have := (cell_pages g0 h.wf hy hcy).1
    have hd := of_decide_eq_true hd
    obtain rfl : i = n := by omega
    rw [hx] at hy
    cases hy
    exact hno c hcy
  have yes : ∀ c, c ∈ x.cells F G n → hasR F G cs n = true := fun c hc => by
    rw [hasR, List.any_eq_true]
    exact ⟨c, h.perm.mem_iff.2 (mem_cellsP.2 ⟨n, x, hx, hc⟩), decide_eq_true (cell_pages g0 h.wf hx hc).1⟩
  cases x with
  | free => exact no fun c hc => by simp [Pg.cells] at hc
  | rest => exact no fun c hc => by simp [Pg.cells] at hc
  | big k => exact yes ⟨F + n * G, k * G, true, true⟩ (by simp [Pg.cells])
  | blk s us =>
    obtain ⟨_, _, _, ht⟩ := h.wf.blk n s us hx
    obtain ⟨j, hj, e⟩ := List.getElem_of_mem ht
    exact yes ⟨F + n * G + j * s, s, true, false⟩ (mem_blk.2 ⟨j, true, by rw [List.getElem?_eq_getElem hj, e], rfl⟩)

theorem pend_eq {F G : Int} {cs : List Rc} {pgs : List Pg} (g0 : 1 ≤ G) (h : Rel F G cs pgs) : ((List.range pgs.length).map fun k : Nat => hasR F G cs (k : Int)) = pgs.map Pg.first := by
  apply List.ext_getElem?
  intro i
  by_cases hi : i < pgs.length
  · rw [List.getElem?_map, List.getElem?_map, List.getElem?_range hi, List.getElem?_eq_getElem hi]
    simp only [Option.map_some]
    rw [hasB_at g0 h (List.getElem?_eq_getElem hi)]
  · rw [List.getElem?_eq_none (by simp; omega), List.getElem?_eq_none (by simp; omega)]

theorem freeB_at {F G : Int} {cs : List Rc} {pgs : List Pg} (g0 : 1 ≤ G) (h : Rel F G cs pgs) {n : Nat} {x : Pg} (hx : pgs[n]? = some x) : freeB F G cs n = x.isFree := by
  have k := freeB_iff g0 h.wf h.perm (List.getElem?_eq_some_iff.1 hx).1
  rw [hx] at k
  cases e : freeB F G cs n with
  | true =>
    have := k.1 e
    cases this
    rfl
  | false =>
    cases x with
    | free => rw [k.2 rfl] at e; cases e
    | _ => rfl

/-- How many of the first k pages are free. -/
theorem freesI_eq {F G : Int} {cs : List Rc} {pgs : List Pg} (g0 : 1 ≤ G) (h : Rel F G cs pgs) {k : Nat} (hk : k ≤ pgs.length) : freesI F G cs k = ((pgs.take k).countP Pg.isFree : Nat) := by
  induction k with
  | zero => simp [freesI]
  | succ k ih =>
    have hx : pgs[k]? = some pgs[k] := List.getElem?_eq_getElem (by omega)
    rw [freesI, ih (by omega), freeB_at g0 h hx, take_snoc hx, List.countP_append, List.countP_singleton]
    cases pgs[k].isFree <;> simp

theorem usedI_perm {cs ds : List Rc} (h : cs.Perm ds) : usedI cs = usedI ds := by
  induction h with
  | nil => rfl
  | cons c _ ih => simp only [usedI, ih]
  | swap c d l => simp only [usedI]; omega
  | trans _ _ h1 h2 => exact h1.trans h2

/-- The places of the pages' cells rise. -/
theorem cellsP_rise {F G : Int} {pgs : List Pg} (g0 : 1 ≤ G) (wf : WF G pgs) : ((cellsP F G pgs).map Rc.pos).Pairwise (· < ·) := by
  rw [List.pairwise_map, cellsP, List.pairwise_flatMap]
  have lies : ∀ (i : Nat) (c : Rc), i < pgs.length → c ∈ (pgs.getD i .free).cells F G i → F + i * G ≤ c.pos ∧ c.pos < F + i * G + G := fun i c hi hc => by
    have hx : pgs[i]? = some pgs[i] := List.getElem?_eq_getElem hi
    rw [List.getD_eq_getElem?_getD, hx] at hc
    simp only [Option.getD_some] at hc
    generalize pgs[i] = x at hx hc
    cases x with
    | free => simp [Pg.cells] at hc
    | rest => simp [Pg.cells] at hc
    | big m => obtain rfl : c = ⟨F + i * G, m * G, true, true⟩ := by simpa [Pg.cells] using hc
               exact ⟨Int.le_refl _, by show F + (i : Int) * G < F + (i : Int) * G + G; omega⟩
    | blk s us =>
      obtain ⟨j, u, hu, rfl⟩ := mem_blk.1 hc
      obtain ⟨s0, _, hl, _⟩ := wf.blk i s us hx
      obtain ⟨p0, p1⟩ := in_page s0 hl (List.getElem?_eq_some_iff.1 hu).1
      exact ⟨by show F + (i : Int) * G ≤ F + (i : Int) * G + (j : Int) * s; omega, by show F + (i : Int) * G + (j : Int) * s < F + (i : Int) * G + G; omega⟩
  refine ⟨fun i hi => ?_, ?_⟩
  · have hi := List.mem_range.1 hi
    have hx : pgs[i]? = some pgs[i] := List.getElem?_eq_getElem hi
    rw [List.getD_eq_getElem?_getD, hx]
    simp only [Option.getD_some]
    generalize pgs[i] = x at hx
    cases x with
    | free => exact List.Pairwise.nil
    | rest => exact List.Pairwise.nil
    | big m => exact List.pairwise_singleton _ _
    | blk s us =>
      obtain ⟨s0, _⟩ := wf.blk i s us hx
      show ((List.range us.length).map fun (j : Nat) => (⟨F + i * G + j * s, s, us.getD j false, false⟩ : Rc)).Pairwise _
      rw [List.pairwise_map]
      refine List.Pairwise.imp ?_ (List.pairwise_lt_range (n := us.length))
      intro j k hjk
      have := Int.mul_lt_mul_of_pos_right (show (j : Int) < k by omega) (show 0 < s by omega)
      show F + (i : Int) * G + (j : Int) * s < F + (i : Int) * G + (k : Int) * s
      omega
  · refine List.Pairwise.imp_of_mem ?_ (List.pairwise_lt_range (n := pgs.length))
    intro i k hi hk hik c hc d hd
    have h1 := lies i c (List.mem_range.1 hi) hc
    have h2 := lies k d (List.mem_range.1 hk) hd
    have h3 := Int.mul_le_mul_of_nonneg_right (show (i : Int) + 1 ≤ k by omega) (show 0 ≤ G by omega)
    rw [Int.add_mul, Int.one_mul] at h3
    omega

/-- Where what is in use begins, in a part. -/
def startsP (F G : Int) (pgs : List Pg) (f t : Int) : List Int := ((cellsP F G pgs).filter (inR f t)).map Rc.pos

theorem starts_eq {F G : Int} {cs : List Rc} {pgs : List Pg} (g0 : 1 ≤ G) (h : Rel F G cs pgs) {f t : Int} {ys : List Int} (hs : ys.Pairwise (· ≤ ·)) (hp : ys.Perm ((cs.filter (inR f t)).map Rc.pos)) : ys = startsP F G pgs f t := by
  refine perm_sorted (hp.trans ((h.perm.filter _).map _)) hs ?_
  have := cellsP_rise (F := F) g0 h.wf
  rw [List.pairwise_map] at this
  rw [startsP, List.pairwise_map]
  exact (this.filter _).imp fun h => Int.le_of_lt h
end Go.Proofs.YthmhehehomieiaaGreat
