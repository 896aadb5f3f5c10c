/- Texts of the layers below, joined: Law Frm Flags ArenaA ArenaB ArenaC ArenaD ArenaV HeadA Bits HeadB HeadC HeadV ObjA ObjB ObjC CutI CutN BumpA BumpB PagesN RefN RefS RefT. -/
import Derived.Test.YthmhehehomieiaaGreatRows
import Derived.WalkKit
import Derived.ProofKit
import Derived.OpenShut
import Derived.ChangeOld
import Derived.Below
import Derived.Carry
import Derived.Deep.Fields
import Derived.Lib.Hide
import Derived.Laws.MakeOwn
import Derived.OwnWalk
import Derived.Deep.QuietTactic
import Derived.Laws.CopyOwn
import Derived.BigRegion
import Derived.IntWalk
import Derived.Laws.BitsAllLaws
import Derived.BigQuiet
import Derived.Deep.RegionHeld3
import Derived.Laws.AppendOwn
import Derived.Maps.AppendAt
import Derived.Deep.AppendLies
import Derived.Deep.DeepCutAuto
import Derived.Deep.CutBlock

/- General lemmas, of no program: how a law's row follows from a walk that returns true and writes nothing that was there ('Below'); how a struct of one-cell fields is opened. -/
namespace Go.Proofs.YthmhehehomieiaaGreat
open Go.ChangeShapes Go.WideShapes Go.ChangeAt Go.RowKit Go.Deep

section
variable {H : Type} {enc : TypeId × Value → H} {P : Program}

/-- Readings of several arguments stay where nothing old has changed. -/
theorem trodAll_stays (hl : laidOutB P = true) {W W' : World} (bel : Below W.heap.size W W') :
    ∀ (ts : List TypeId) (vs : List Value) (ds : List (DataW H)) (p : List MemPlace), (∀ t ∈ ts, P.readableRec t = true ∧ t < P.types.size) →
      DataW.TrodAll enc P W 0 (fun _ => true) true ts vs ds p → (∀ x ∈ p, x.block < W.heap.size) →
      DataW.TrodAll enc P W' 0 (fun b => decide (b < W.heap.size)) true ts vs ds p
  | [], vs, ds, p, _, h, _ => by
    obtain ⟨rfl, rfl, rfl⟩ := trodAll_nil h
    exact trodAll_mk0
  | t :: ts, vs, ds, p, hr, h, hlt => by
    obtain ⟨v, vs', d, ds', p0, q0, rfl, rfl, rfl, h0, h1⟩ := trodAll_cons h
    have h2 := trodAll_stays hl bel ts vs' ds' q0 (fun t ht => hr t (List.mem_cons_of_mem _ ht)) h1 (fun x hx => hlt x (List.mem_append_right _ hx))
    exact trodAll_cons_mk (Below.trod hl (hr t (List.mem_cons_self ..)).1 (hr t (List.mem_cons_self ..)).2 h0 bel (fun x hx => hlt x (List.mem_append_left _ hx))) h2

/-- The post of a law's row. -/
theorem law_post {f : Func} {s : ChangeSpec} {W W' : World} {args : Array Value} {ds gs : List (DataW H)} {before : List MemPlace} {tb : TypeId}
    (hl : laidOutB P = true) (hr0 : (f.params.toList.all fun t => P.readableRec t && decide (t < P.types.size)) = true) (hb : f.resultTypes = #[tb]) (htb : P.underlying tb = some .bool) (hvars : s.vars = [])
    (hfn : ∀ ds : List (DataW H), ds.length = f.params.toList.length → s.fn H ds = { results := [.lit (.bool true)], args := ds })
    (hW : DataW.Whole enc P f.params.toList s.vars false W args.toList ds gs before) (bel : Below W.heap.size W W') :
    s.post enc P f false true false false W args (.bool true) W' := by
  have hr : ∀ t ∈ f.params.toList, P.readableRec t = true ∧ t < P.types.size := fun t ht => by
    have := List.all_eq_true.1 hr0 t ht
    simpa using this
  have hlt : ∀ p ∈ before, p.block < W.heap.size := fun p hp => hW.lt p hp
  have hW' := hW
  obtain ⟨p, q, hA, hV, rfl, _, _⟩ := hW
  rw [hvars] at hV
  obtain ⟨rfl, rfl⟩ := trodVars_none hV
  have hlen : ∀ (ts : List TypeId) (vs : List Value) (ds : List (DataW H)) (p : List MemPlace), DataW.TrodAll enc P W 0 (fun _ => true) true ts vs ds p → ds.length = ts.length := by
    intro ts
    induction ts with
    | nil => intro vs ds p h; obtain ⟨_, rfl, _⟩ := trodAll_nil h; rfl
    | cons t ts ih =>
      intro vs ds p h
      obtain ⟨v, vs', d, ds', p0, q0, rfl, rfl, rfl, _, h1⟩ := trodAll_cons h
      simp [ih _ _ _ h1]
  have e := hfn (ds ++ []) (by simpa using hlen _ _ _ _ hA)
  refine ⟨ds, [], _, [], p, [], hW', ?_, ?_, ?_, bel.frame _, fun h => by cases h⟩
  · rw [e, hb]
    exact trodAll_mk1 (shut_bool htb _)
  · rw [e]
    simpa using trodAll_stays hl bel _ _ _ _ hr hA (fun x hx => hlt x (List.mem_append_left _ hx))
  · rw [e, hvars]
    rfl

/-- A struct whose fields take one cell each, as an argument: its cells, each with its own reading. -/
theorem open_cells {w : World} {base : Nat} {spare : Nat → Bool} {held : Bool} {r : Reach} {b0 : Nat} {t : TypeId} {fs : Array Field} {v : Value} {d : DataW H} {p : List MemPlace}
    (hs : P.underlying t = some (.struct fs)) (hone : oneCellFields P fs = true) (hC : P.cellsOf t = fs.size)
    (hv : Value.okWide P w r b0 t v) (h : DataW.Trod enc P w base spare held t v d p) :
    ∃ l : List Value, v = .agg ⟨l⟩ ∧ l.length = fs.size ∧ ∃ n, ∀ (j : Nat) (f : Field), fs[j]? = some f → ∃ c y, l[j]? = some c ∧ DataW.trod enc P w base spare held n f.type [c] = some y := by
  obtain ⟨cs, rfl, hsz⟩ := okWide_struct hs hv
  obtain ⟨l⟩ := cs
  obtain ⟨fuel, hf⟩ := h
  obtain ⟨xs, n, _, _, _, hlen, hg⟩ := DataW.trod_struct hs hf
  have hl : l.length = fs.size := by simpa using hsz.trans hC
  refine ⟨l, rfl, hl, n, fun j f hj => ?_⟩
  have hjl : j < fs.size := (Array.getElem?_eq_some_iff.1 hj).1
  obtain ⟨ho, hk⟩ := hone_of hone j f hj
  have h1 := hg j f hj
  rw [ho, hk] at h1
  have e : ((Value.agg ⟨l⟩).cells.toList.drop j).take 1 = [l[j]'(by omega)] := by
    show (l.drop j).take 1 = _
    rw [List.drop_eq_getElem_cons (by omega)]
    rfl
  have hx : xs[j]? = some (xs[j]'(by omega)) := List.getElem?_eq_getElem (by omega)
  refine ⟨l[j]'(by omega), xs[j]'(by omega), List.getElem?_eq_getElem (by omega), ?_⟩
  rw [← hx, ← h1, ← e]
end

/-- A call that only makes new blocks: all old cells and marks read as before. -/
theorem kept_cells {w w' : World} (h : Below w.heap.size w w') :
    (∀ b o, b < w.heap.size → w'.cell? ⟨b, o, none⟩ = w.cell? ⟨b, o, none⟩) ∧ (∀ b o, b < w.heap.size → w'.frozen? ⟨b, o, none⟩ = w.frozen? ⟨b, o, none⟩) :=
  ⟨fun b o hb => h.cell (p := ⟨b, o, none⟩) hb, fun b o hb => h.frozen (p := ⟨b, o, none⟩) hb⟩

theorem below_alloc_trans {w w' : World} (o : Obj) (h : Below (w.alloc o).heap.size (w.alloc o) w') : Below w.heap.size w w' :=
  ((Below.refl _ w).alloc (Nat.le_refl _) o).trans (h.mono (by simp))

theorem below_trans {w w1 w2 : World} (h : Below w.heap.size w w1) (k : Below w1.heap.size w1 w2) : Below w.heap.size w w2 := h.trans (k.mono h.size)

/-- A block that is known whole. -/
def Blk (w : World) (b : Nat) (cs : Array Value) (t : TypeId) : Prop := w.heap[b]? = some (.cells cs t)

theorem Blk.new (w : World) (cs : Array Value) (t : TypeId) : Blk (w.alloc (.cells cs t)) w.heap.size cs t := (MapKept.heap_alloc w _).1

section
variable {w w' : World} {b : Nat} {cs : Array Value} {t : TypeId}
theorem Blk.lt (h : Blk w b cs t) : b < w.heap.size := (Array.getElem?_eq_some_iff.1 h).1
theorem Blk.alloc (h : Blk w b cs t) (o : Obj) : Blk (w.alloc o) b cs t := (Below.heap_alloc w o b h.lt).trans h
theorem Blk.below (h : Blk w b cs t) {B : Nat} (hb : Below B w w') (hB : b < B) : Blk w' b cs t := (hb.block b hB).trans h
theorem Blk.keep (h : Blk w b cs t) (hb : Below w.heap.size w w') : Blk w' b cs t := h.below hb h.lt
theorem Blk.cell (h : Blk w b cs t) (i : Nat) : w.cell? ⟨b, i, none⟩ = cs[i]? := by
  unfold Blk at h
  simp [World.cell?, h]
theorem Blk.frozen (h : Blk w b cs t) (i : Nat) : w.frozen? ⟨b, i, none⟩ = false := by
  unfold Blk at h
  simp [World.frozen?, h]
theorem Blk.seven {v0 v1 v2 v3 v4 v5 v6 : Value} (h : Blk w b #[v0, v1, v2, v3, v4, v5, v6] t) :
    w.cell? ⟨b, 0, none⟩ = some v0 ∧ w.cell? ⟨b, 1, none⟩ = some v1 ∧ w.cell? ⟨b, 2, none⟩ = some v2 ∧ w.cell? ⟨b, 3, none⟩ = some v3 ∧ w.cell? ⟨b, 4, none⟩ = some v4 ∧ w.cell? ⟨b, 5, none⟩ = some v5 ∧ w.cell? ⟨b, 6, none⟩ = some v6 ∧
    (∀ i, w.frozen? ⟨b, i, none⟩ = false) := ⟨h.cell 0, h.cell 1, h.cell 2, h.cell 3, h.cell 4, h.cell 5, h.cell 6, h.frozen⟩
end

theorem own : ownKnob Tryz.prog.godebug = none := by kernel_rfl
theorem laidOut : laidOutB Tryz.prog = true := by kernel_rfl
end Go.Proofs.YthmhehehomieiaaGreat

/- A frame, of no program: which old blocks a call may have turned. -/
namespace Go.Proofs.YthmhehehomieiaaGreat
open Go.RowKit

/-- Of what was there only blocks of S have turned; the streams are as they were. -/
structure Frm (S : Nat → Prop) (w w' : World) : Prop where
  os : w'.os = w.os
  tape : w'.tape = w.tape
  output : w'.output = w.output
  size : w.heap.size ≤ w'.heap.size
  block : ∀ k, k < w.heap.size → ¬ S k → w'.heap[k]? = w.heap[k]?

theorem Frm.refl (S : Nat → Prop) (w : World) : Frm S w w := ⟨rfl, rfl, rfl, Nat.le_refl _, fun _ _ _ => rfl⟩

theorem Frm.trans {S S' : Nat → Prop} {a b c : World} (h : Frm S a b) (k : Frm S' b c) (hs : ∀ i, i < a.heap.size → S' i → S i) : Frm S a c :=
  ⟨k.os.trans h.os, k.tape.trans h.tape, k.output.trans h.output, Nat.le_trans h.size k.size,
    fun i hi hn => (k.block i (Nat.lt_of_lt_of_le hi h.size) (fun e => hn (hs i hi e))).trans (h.block i hi hn)⟩

theorem Frm.mono {S S' : Nat → Prop} {a b : World} (h : Frm S a b) (hs : ∀ i, i < a.heap.size → S i → S' i) : Frm S' a b :=
  ⟨h.os, h.tape, h.output, h.size, fun i hi hn => h.block i hi (fun e => hn (hs i hi e))⟩

theorem Frm.of_below {S : Nat → Prop} {w w' : World} (h : Below w.heap.size w w') : Frm S w w' := ⟨h.os, h.tape, h.output, h.size, fun k hk _ => h.block k hk⟩

theorem Frm.alloc {S : Nat → Prop} {a w : World} (h : Frm S a w) (o : Obj) : Frm S a (w.alloc o) :=
  ⟨h.os, h.tape, h.output, Nat.le_trans h.size (by simp), fun k hk hn => (Below.heap_alloc w o k (Nat.lt_of_lt_of_le hk h.size)).trans (h.block k hk hn)⟩

theorem Frm.setCell {S : Nat → Prop} {a w : World} (h : Frm S a w) {p : Addr} (hp : p.block < a.heap.size → S p.block) (u : Value) : Frm S a (w.setCell p u) :=
  ⟨h.os, h.tape, h.output, by simpa [World.setCell] using h.size, fun k hk hn => (Below.heap_setCell w p u k (fun e => hn (e ▸ hp (e ▸ hk)))).trans (h.block k hk hn)⟩

theorem Frm.setRow {S : Nat → Prop} {a w : World} (h : Frm S a w) {g : Nat} (hg : g < a.heap.size → S g) (cs : Array Value) : Frm S a (w.setRow g cs) :=
  ⟨h.os, h.tape, h.output, by simpa [World.setRow] using h.size, fun k hk hn => (setRow_other w g k cs (fun e => hn (e ▸ hg (e ▸ hk)))).trans (h.block k hk hn)⟩

theorem Frm.drew {S : Nat → Prop} {a w : World} (h : Frm S a w) : Frm S a w.drew := ⟨h.os, h.tape, h.output, h.size, h.block⟩

theorem Frm.below {S : Nat → Prop} {B : Nat} {w w' : World} (h : Frm S w w') (hB : B ≤ w.heap.size) (hs : ∀ k, k < B → ¬ S k) : Below B w w' :=
  ⟨h.os, h.tape, h.output, h.size, fun k hk => h.block k (Nat.lt_of_lt_of_le hk hB) (hs k hk)⟩

/-- What was made since w0, and old blocks as they were. -/
theorem Below.frm {S : Nat → Prop} {B : Nat} {w0 w w' : World} (h : Below B w0 w) (f : Frm S w w') (hB : B ≤ w.heap.size) (hs : ∀ k, k < B → ¬ S k) : Below B w0 w' :=
  h.trans (f.below hB hs)

theorem Blk.frm {S : Nat → Prop} {w w' : World} {b : Nat} {cs : Array Value} {t : TypeId} (h : Blk w b cs t) (f : Frm S w w') (hb : ¬ S b) : Blk w' b cs t := (f.block b h.lt hb).trans h

theorem Blk.set_ {w : World} {b : Nat} {cs : Array Value} {t : TypeId} (h : Blk w b cs t) (i : Nat) (u : Value) : Blk (w.setCell ⟨b, i, none⟩ u) b (cs.setIfInBounds i u) t := by
  unfold Blk at h ⊢
  simp [World.setCell, Array.getElem?_modify, h]
theorem Blk.far {w : World} {b : Nat} {cs : Array Value} {t : TypeId} (h : Blk w b cs t) {p : Addr} (hp : b ≠ p.block) (u : Value) : Blk (w.setCell p u) b cs t := (Below.heap_setCell w p u b hp).trans h
theorem Blk.drew {w : World} {b : Nat} {cs : Array Value} {t : TypeId} (h : Blk w b cs t) : Blk w.drew b cs t := h
theorem Blk.row {w : World} {b : Nat} {cs ds : Array Value} {t : TypeId} (h : Blk w b cs t) : Blk (w.setRow b ds) b ds t := setRow_heap w b cs _ t _ h
theorem Blk.farRow {w : World} {b g : Nat} {cs ds : Array Value} {t : TypeId} (h : Blk w b cs t) (hg : b ≠ g) : Blk (w.setRow g ds) b cs t := (setRow_other w g b ds hg).trans h
theorem Blk.ne_ {w : World} {g g' : Nat} {t t' : TypeId} {cs cs' : Array Value} (h : Blk w g cs t) (h' : Blk w g' cs' t') (hne : t ≠ t') : g ≠ g' := by
  rintro rfl
  unfold Blk at h h'
  rw [h] at h'
  injection h' with h'
  injection h' with _ ht
  exact hne ht
end Go.Proofs.YthmhehehomieiaaGreat

/- Flags in memory: made, read, set; of no program's own functions. -/
namespace Go.Proofs.YthmhehehomieiaaGreat
open Go.RowKit

theorem madeB (n : Nat) : madeCells (Value.bool false).cells n = ((List.replicate n false).map Value.bool).toArray := by
  apply Array.ext
  · simp [madeCells]
  · intro i h1 h2
    simp [madeCells, Value.cells, Nat.mod_one]

theorem info_bool : (Tryz.prog.info? 4).map (fun i => (i.zero, i.size, i.bytes)) = some (some (.bool false), 1, 1) := by kernel_rfl

/-- Flags that are made. -/
theorem run_make_bool (n : Int) (h0 : 0 ≤ n) (h1 : n ≤ 1073741824) (w : World) :
    (Instr.makeSlice 40 (.int .i64 n) (.int .i64 n)).run Tryz.prog w = .ok (.slice (some ⟨w.heap.size, 0, none⟩) n.toNat n.toNat) (w.alloc (.cells ((List.replicate n.toNat false).map Value.bool).toArray 4)) := by
  obtain ⟨i, hi, hz, hs, hb⟩ := info_parts info_bool
  have h := run_make (P := Tryz.prog) w 40 4 i _ Tryz.underlying40 hi hz .i64 .i64 n n h0 (Int.le_refl _) (by rw [hb]; omega) (by omega)
  rw [hs, Nat.mul_one, madeB] at h
  exact h

theorem Blk.bools {w : World} {b : Nat} {t : TypeId} {ps : List Bool} (h : Blk w b (ps.map Value.bool).toArray t) {i : Nat} {x : Bool} (hx : ps[i]? = some x) : w.cell? ⟨b, i, none⟩ = some (.bool x) := by
  rw [h.cell]; simp [hx]

theorem Blk.setBool {w : World} {b : Nat} {t : TypeId} {ps : List Bool} (h : Blk w b (ps.map Value.bool).toArray t) (i : Nat) (x : Bool) : Blk (w.setCell ⟨b, i, none⟩ (.bool x)) b ((ps.set i x).map Value.bool).toArray t := by
  have := h.set_ i (.bool x)
  have e : (ps.map Value.bool).toArray.setIfInBounds i (.bool x) = ((ps.set i x).map Value.bool).toArray := by
    apply Array.ext'
    simp
  rw [← e]
  exact this

theorem ret_bool {p q : Bool} (h : p = q) : Ending.returned (.bool p) = .returned (.bool q) := by rw [h]
theorem ret_int {k : IntKind} {a b : Int} (h : a = b) : Ending.returned (.int k a) = .returned (.int k b) := by rw [h]
theorem ret_pair {a b : Int} {p q : Bool} (h : a = b) (k : p = q) : Ending.returned (.tuple #[.int .i64 a, .bool p]) = .returned (.tuple #[.int .i64 b, .bool q]) := by rw [h, k]
theorem ret_two {a b c d : Int} (h : a = b) (k : c = d) : Ending.returned (.tuple #[.int .i64 a, .int .i64 c]) = .returned (.tuple #[.int .i64 b, .int .i64 d]) := by rw [h, k]

theorem below_drewN (w : World) (m : Nat) : Below w.heap.size w (w.drewN m) := ⟨rfl, rfl, rfl, Nat.le_refl _, fun _ _ => rfl⟩
theorem below_drew (w : World) : Below w.heap.size w w.drew := ⟨rfl, rfl, rfl, Nat.le_refl _, fun _ _ => rfl⟩
theorem Frm.drewN {S : Nat → Prop} {a w : World} (h : Frm S a w) (m : Nat) : Frm S a (w.drewN m) := ⟨h.os, h.tape, h.output, h.size, h.block⟩
end Go.Proofs.YthmhehehomieiaaGreat

/- An arena in memory; contracts of has, Len. -/
namespace Go.Proofs.YthmhehehomieiaaGreat
open Go.RowKit

/-- Words as cells. -/
def u64s (ws : List Int) : Array Value := (ws.map (Value.int .u64)).toArray

/-- Block a is an arena whose words ws lie in block b, and of which c words were asked for. -/
def IsAr (w : World) (a b : Nat) (ws : List Int) (c : Int) : Prop :=
  Blk w a #[.slice (some ⟨b, 0, none⟩) ws.length ws.length, .int .i64 c] 114 ∧ Blk w b (u64s ws) 51

abbrev arP (a : Nat) : Value := .pointer (some ⟨a, 0, none⟩)

/-- Are there n words from a place on? -/
def hasB (len : Nat) (at_ n : Int) : Bool := decide (0 ≤ n ∧ 0 ≤ at_ ∧ n ≤ len - at_)

theorem hasB_iff (len : Nat) (at_ n : Int) : hasB len at_ n = true ↔ 0 ≤ n ∧ 0 ≤ at_ ∧ at_ + n ≤ len := by
  unfold hasB; rw [decide_eq_true_eq]; omega
theorem hasB_no (len : Nat) (at_ n : Int) : hasB len at_ n = false ↔ ¬ (0 ≤ n ∧ 0 ≤ at_ ∧ at_ + n ≤ len) := by
  unfold hasB; rw [decide_eq_false_iff_not]; omega

section
variable {w w' : World} {a b : Nat} {ws : List Int} {c : Int}
theorem IsAr.ne (h : IsAr w a b ws c) : a ≠ b := h.1.ne_ h.2 (by decide)
theorem IsAr.ltA (h : IsAr w a b ws c) : a < w.heap.size := h.1.lt
theorem IsAr.ltB (h : IsAr w a b ws c) : b < w.heap.size := h.2.lt
theorem IsAr.cells (h : IsAr w a b ws c) : w.cell? ⟨a, 0, none⟩ = some (.slice (some ⟨b, 0, none⟩) ws.length ws.length) ∧ w.cell? ⟨a, 1, none⟩ = some (.int .i64 c) ∧ w.frozen? ⟨a, 1, none⟩ = false :=
  ⟨h.1.cell 0, h.1.cell 1, h.1.frozen 1⟩
theorem IsAr.word (h : IsAr w a b ws c) (k : Nat) (x : Int) (hx : ws[k]? = some x) : w.cell? ⟨b, k, none⟩ = some (.int .u64 x) := by
  rw [h.2.cell k]; simp [u64s, hx]
theorem IsAr.frm {S : Nat → Prop} (h : IsAr w a b ws c) (f : Frm S w w') (ha : ¬ S a) (hb : ¬ S b) : IsAr w' a b ws c := ⟨h.1.frm f ha, h.2.frm f hb⟩
theorem IsAr.keep (h : IsAr w a b ws c) (f : Below w.heap.size w w') : IsAr w' a b ws c := ⟨h.1.keep f, h.2.keep f⟩
theorem IsAr.alloc (h : IsAr w a b ws c) (o : Obj) : IsAr (w.alloc o) a b ws c := ⟨h.1.alloc o, h.2.alloc o⟩
end

set_option maxHeartbeats 400000 in
theorem has_nil (at_ n : Int) (w : World) :
    Calls Tryz.prog 74 #[.pointer none, .int .i64 at_, .int .i64 n] w fun e w' => e = .returned (.bool false) ∧ w = w' := by
  go_enter Tryz.func74, Tryz.ntmps74
  go_wp2
  go_ret
  exact ⟨rfl, rfl⟩

set_option maxHeartbeats 1000000 in
theorem has_any (a b : Nat) (ws : List Int) (c at_ n : Int) (w : World) (h : IsAr w a b ws c) (hl : ws.length ≤ 1048576) (a1 : at_ ≤ 9223372036854775807) :
    Calls Tryz.prog 74 #[arP a, .int .i64 at_, .int .i64 n] w fun e w' => e = .returned (.bool (hasB ws.length at_ n)) ∧ w = w' := by
  obtain ⟨c0, _, _⟩ := h.cells
  clear h
  generalize ws.length = len at *
  by_cases h0 : 0 ≤ n
  · by_cases h1 : 0 ≤ at_
    · by_cases h2 : n ≤ len - at_
      all_goals
        go_enter Tryz.func74, Tryz.ntmps74
        go_wp2
        go_ret
        exact ⟨by simp [hasB, h0, h1, h2], rfl⟩
    · go_enter Tryz.func74, Tryz.ntmps74
      go_wp2
      go_ret
      exact ⟨by rw [show hasB len at_ n = false from (hasB_no ..).2 (by omega)]; rfl, rfl⟩
  · go_enter Tryz.func74, Tryz.ntmps74
    go_wp2
    go_ret
    exact ⟨by rw [show hasB len at_ n = false from (hasB_no ..).2 (by omega)]; rfl, rfl⟩

set_option maxHeartbeats 400000 in
theorem len_nil (w : World) : Calls Tryz.prog 22 #[.pointer none] w fun e w' => e = .returned (.int .i64 0) ∧ w = w' := by
  go_enter Tryz.func22, Tryz.ntmps22
  go_wp2
  go_ret
  exact ⟨rfl, rfl⟩

set_option maxHeartbeats 400000 in
theorem len_any (a b : Nat) (ws : List Int) (c : Int) (w : World) (h : IsAr w a b ws c) :
    Calls Tryz.prog 22 #[arP a] w fun e w' => e = .returned (.int .i64 ws.length) ∧ w = w' := by
  obtain ⟨c0, _, _⟩ := h.cells
  clear h
  generalize ws.length = len at *
  go_enter Tryz.func22, Tryz.ntmps22
  go_wp2
  go_ret
  exact ⟨rfl, rfl⟩
end Go.Proofs.YthmhehehomieiaaGreat

/- Contracts of New, Load, Store. -/
namespace Go.Proofs.YthmhehehomieiaaGreat
open Go.RowKit

theorem madeU (n : Nat) : madeCells (Value.int .u64 0).cells n = u64s (List.replicate n 0) := by
  apply Array.ext
  · simp [madeCells, u64s]
  · intro i h1 h2
    simp [madeCells, u64s, Value.cells, Nat.mod_one]

theorem info_u64 : (Tryz.prog.info? 51).map (fun i => (i.zero, i.size, i.bytes)) = some (some (.int .u64 0), 1, 8) := by kernel_rfl

/-- Words that are made. -/
theorem run_make_u64 (n : Int) (h0 : 0 ≤ n) (h1 : n ≤ 1073741824) (w : World) :
    (Instr.makeSlice 59 (.int .i64 n) (.int .i64 n)).run Tryz.prog w = .ok (.slice (some ⟨w.heap.size, 0, none⟩) n.toNat n.toNat) (w.alloc (.cells (u64s (List.replicate n.toNat 0)) 51)) := by
  obtain ⟨i, hi, hz, hs, hb⟩ := info_parts info_u64
  have h := run_make (P := Tryz.prog) w 59 51 i _ Tryz.underlying59 hi hz .i64 .i64 n n h0 (Int.le_refl _) (by rw [hb]; omega) (by omega)
  rw [hs, Nat.mul_one, madeU] at h
  exact h

def clampN (n : Int) : Nat := (min (max n 0) 1048576).toNat

theorem clamp_le (n : Int) : clampN n ≤ 1048576 := by unfold clampN; omega

theorem isAr_new (w : World) (ws : List Int) (c : Int) : IsAr ((w.alloc (.cells (u64s ws) 51)).alloc (.cells #[.slice (some ⟨w.heap.size, 0, none⟩) ws.length ws.length, .int .i64 c] 114)) (w.heap.size + 1) w.heap.size ws c := by
  refine ⟨?_, (Blk.new w _ _).alloc _⟩
  have h := Blk.new (w.alloc (.cells (u64s ws) 51)) #[.slice (some ⟨w.heap.size, 0, none⟩) ws.length ws.length, .int .i64 c] 114
  simpa using h

theorem new_end (w : World) (n : Int) (k : Nat) (hk : k = clampN n) (p : Value) (hp : p = arP (w.heap.size + 1)) (W : World) (hW : W = (w.alloc (.cells (u64s (List.replicate k 0)) 51)).alloc (.cells #[.slice (some ⟨w.heap.size, 0, none⟩) k k, .int .i64 0] 114)) :
    Ending.returned p = .returned (arP (w.heap.size + 1)) ∧ IsAr W (w.heap.size + 1) w.heap.size (List.replicate (clampN n) 0) 0 ∧ Below w.heap.size w W := by
  subst hk hp hW
  refine ⟨rfl, ?_, ((Below.refl _ _).alloc (Nat.le_refl _) _).alloc (by simp) _⟩
  have h := isAr_new w (List.replicate (clampN n) 0) 0
  rw [List.length_replicate] at h
  exact h

set_option maxRecDepth 100000 in
set_option maxHeartbeats 1000000 in
theorem new_any (n : Int) (w : World) :
    Calls Tryz.prog 61 #[.int .i64 n] w fun e w' => e = .returned (arP (w.heap.size + 1)) ∧ IsAr w' (w.heap.size + 1) w.heap.size (List.replicate (clampN n) 0) 0 ∧ Below w.heap.size w w' := by
  by_cases h0 : n < 0
  · have hmk := run_make_u64 0 (by omega) (by omega)
    have hk : 0 = clampN n := by unfold clampN; omega
    have HK := Lib.hid hk
    clear hk
    go_enter Tryz.func61, Tryz.ntmps61
    go_wp2
    go_ret
    exact new_end w n 0 HK.out _ rfl _ rfl
  · by_cases h1 : n ≤ 1048576
    · have hmk := run_make_u64 n (by omega) (by omega)
      have hk : n.toNat = clampN n := by unfold clampN; omega
      have HK := Lib.hid hk
      clear hk
      go_enter Tryz.func61, Tryz.ntmps61
      go_wp2
      go_ret
      exact new_end w n _ HK.out _ rfl _ rfl
    · have hmk0 := run_make_u64 1048576 (by omega) (by omega)
      have hk : (1048576 : Int).toNat = clampN n := by unfold clampN; omega
      obtain ⟨K, hK⟩ : ∃ K, K = clampN n := ⟨_, rfl⟩
      rw [hk, ← hK] at hmk0
      have hmk := hmk0
      have HK := Lib.hid hK
      clear hk hmk0 hK
      go_enter Tryz.func61, Tryz.ntmps61
      go_wp2
      go_ret
      exact new_end w n _ HK.out _ rfl _ rfl

set_option maxHeartbeats 1000000 in
theorem load_nil (at_ : Int) (w : World) :
    Calls Tryz.prog 28 #[.pointer none, .int .i64 at_] w fun e w' => e = .returned (.tuple #[.int .u64 0, .int .i64 2]) ∧ w = w' := by
  go_enter Tryz.func28, Tryz.ntmps28
  go_wp2_with fail
  refine (has_nil _ _ _).mono ?_
  rintro e w' ⟨rfl, rfl⟩
  go_wp2
  go_ret2
  exact ⟨rfl, rfl⟩

set_option maxHeartbeats 1000000 in
theorem load_no (a b : Nat) (ws : List Int) (c at_ : Int) (w : World) (h : IsAr w a b ws c) (hl : ws.length ≤ 1048576) (a1 : at_ ≤ 9223372036854775807) (hh : hasB ws.length at_ 1 = false) :
    Calls Tryz.prog 28 #[arP a, .int .i64 at_] w fun e w' => e = .returned (.tuple #[.int .u64 0, .int .i64 2]) ∧ w = w' := by
  go_enter Tryz.func28, Tryz.ntmps28
  go_wp2_with fail
  refine (has_any a b ws c _ _ _ h hl a1).mono ?_
  rintro e w' ⟨rfl, rfl⟩
  go_wp2
  go_ret2
  exact ⟨rfl, rfl⟩

/-- A count that has grown. -/
def addC (c n : Int) : Int := wrap64 (c + n)

theorem addC_in (c n : Int) (h0 : -9223372036854775808 ≤ c + n) (h1 : c + n ≤ 9223372036854775807) : addC c n = c + n := by
  unfold addC wrap64; omega

theorem isAr_count {w : World} {a b : Nat} {ws : List Int} {c : Int} (h : IsAr w a b ws c) (d : Int) : IsAr (w.setCell ⟨a, 1, none⟩ (.int .i64 d)) a b ws d :=
  ⟨h.1.set_ 1 _, h.2.far (p := ⟨a, 1, none⟩) (Ne.symm h.ne) _⟩

/-- Only the arena has turned: its words and its count are these. -/
structure Turns (a b : Nat) (ws : List Int) (c : Int) (w w' : World) : Prop where
  is : IsAr w' a b ws c
  frm : Frm (fun k => k = a ∨ k = b) w w'
  size : w'.heap.size = w.heap.size

theorem turns_count {w : World} {a b : Nat} {ws : List Int} {c : Int} (h : IsAr w a b ws c) (d : Int) : Turns a b ws d w (w.setCell ⟨a, 1, none⟩ (.int .i64 d)) :=
  ⟨isAr_count h d, (Frm.refl _ w).setCell (p := ⟨a, 1, none⟩) (fun _ => .inl rfl) _, by simp [World.setCell]⟩

set_option maxHeartbeats 1000000 in
theorem load_yes (a b : Nat) (ws : List Int) (c : Int) (k : Nat) (x : Int) (w : World) (h : IsAr w a b ws c) (hl : ws.length ≤ 1048576) (hx : ws[k]? = some x) :
    Calls Tryz.prog 28 #[arP a, .int .i64 k] w fun e w' => e = .returned (.tuple #[.int .u64 x, .int .i64 0]) ∧ Turns a b ws (addC c 1) w w' := by
  have HT := Lib.hid (turns_count h (addC c 1))
  have hk : k < ws.length := (List.getElem?_eq_some_iff.1 hx).1
  have hh : hasB ws.length k 1 = true := (hasB_iff ..).2 ⟨by omega, by omega, by omega⟩
  have hW := h.word k x hx
  have hn := h.ne
  obtain ⟨c0, c1, f1⟩ := h.cells
  have H := has_any a b ws c k 1 w h hl (by omega)
  have HH := Lib.hid H
  clear H hx h
  generalize ws.length = len at *
  go_enter Tryz.func28, Tryz.ntmps28
  go_wp2_with fail
  refine HH.out.mono ?_
  rintro e w' ⟨rfl, rfl⟩
  go_wp2
  go_ret2
  exact ⟨rfl, HT.out⟩

theorem set_u64s (ws : List Int) (k : Nat) (x : Int) : (u64s ws).setIfInBounds k (.int .u64 x) = u64s (ws.set k x) := by
  simp [u64s, List.map_set]

theorem turns_store {w : World} {a b : Nat} {ws : List Int} {c : Int} (h : IsAr w a b ws c) (d : Int) (k : Nat) (x : Int) :
    Turns a b (ws.set k x) d w ((w.setCell ⟨a, 1, none⟩ (.int .i64 d)).setCell ⟨b, k, none⟩ (.int .u64 x)) := by
  have h1 := isAr_count h d
  refine ⟨⟨?_, ?_⟩, ((Frm.refl _ w).setCell (p := ⟨a, 1, none⟩) (fun _ => .inl rfl) _).setCell (p := ⟨b, k, none⟩) (fun _ => .inr rfl) _, by simp [World.setCell]⟩
  · have h2 := h1.1.far (p := ⟨b, k, none⟩) h.ne (.int .u64 x)
    rw [List.length_set]
    exact h2
  · have h2 := h1.2.set_ k (.int .u64 x)
    rw [set_u64s] at h2
    exact h2

set_option maxHeartbeats 1000000 in
theorem store_nil (at_ x : Int) (w : World) :
    Calls Tryz.prog 146 #[.pointer none, .int .i64 at_, .int .u64 x] w fun e w' => e = .returned (.int .i64 2) ∧ w = w' := by
  go_enter Tryz.func146, Tryz.ntmps146
  go_wp2_with fail
  refine (has_nil _ _ _).mono ?_
  rintro e w' ⟨rfl, rfl⟩
  go_wp2
  go_ret
  exact ⟨rfl, rfl⟩

set_option maxHeartbeats 1000000 in
theorem store_no (a b : Nat) (ws : List Int) (c at_ x : Int) (w : World) (h : IsAr w a b ws c) (hl : ws.length ≤ 1048576) (a1 : at_ ≤ 9223372036854775807) (hh : hasB ws.length at_ 1 = false) :
    Calls Tryz.prog 146 #[arP a, .int .i64 at_, .int .u64 x] w fun e w' => e = .returned (.int .i64 2) ∧ w = w' := by
  go_enter Tryz.func146, Tryz.ntmps146
  go_wp2_with fail
  refine (has_any a b ws c _ _ _ h hl a1).mono ?_
  rintro e w' ⟨rfl, rfl⟩
  go_wp2
  go_ret
  exact ⟨rfl, rfl⟩

set_option maxHeartbeats 1000000 in
theorem store_yes (a b : Nat) (ws : List Int) (c : Int) (k : Nat) (x : Int) (w : World) (h : IsAr w a b ws c) (hl : ws.length ≤ 1048576) (hk : k < ws.length) :
    Calls Tryz.prog 146 #[arP a, .int .i64 k, .int .u64 x] w fun e w' => e = .returned (.int .i64 0) ∧ Turns a b (ws.set k x) (addC c 1) w w' := by
  have HT := Lib.hid (turns_store h (addC c 1) k x)
  have hh : hasB ws.length k 1 = true := (hasB_iff ..).2 ⟨by omega, by omega, by omega⟩
  have hW := h.word k _ (List.getElem?_eq_getElem hk)
  have hF := h.2.frozen k
  have hn := h.ne
  obtain ⟨c0, c1, f1⟩ := h.cells
  have H := has_any a b ws c k 1 w h hl (by omega)
  have HH := Lib.hid H
  clear H h
  generalize ws[k] = y at *
  generalize ws.length = len at *
  go_enter Tryz.func146, Tryz.ntmps146
  go_wp2_with fail
  refine HH.out.mono ?_
  rintro e w' ⟨rfl, rfl⟩
  go_wp2
  go_ret
  exact ⟨rfl, HT.out⟩
end Go.Proofs.YthmhehehomieiaaGreat

/- Contracts of Zero and Copy; 'clear' as a law for the walk. -/
namespace Go.Proofs.YthmhehehomieiaaGreat
open Go.RowKit

theorem zeroU (n : Nat) : (Builtin.zeroCells (Value.int .u64 0).cells n).toList = List.replicate n (Value.int .u64 0) := by
  apply List.ext_getElem
  · simp [size_zeroCells, Value.cells]
  · intro i h1 h2
    simp [Builtin.zeroCells, Value.cells, Nat.mod_one]

theorem run_clear {P : Program} (w : World) (T ty elem : TypeId) (i : TypeInfo) (z : Value) (hu : P.underlying T = some (.slice elem)) (hi : P.info? elem = some i) (hz : i.zero = some z) (zs : List Value) (n : Nat)
    (hzs : (Builtin.zeroCells z.cells n).toList = zs) (hlen : zs.length = n) (hone : ∀ v ∈ zs, v.oneCell' = true)
    (sp : Option Addr) (cap g off : Nat) (cur : List Value) (t : TypeId) (hg : w.heap[g]? = some (.cells cur.toArray t (0, 0))) (hpos : 0 < n → sp = some ⟨g, off, none⟩) (hfit : off + n ≤ cur.length) :
    (Builtin.clear_ #[T] ty #[.slice sp n cap]).run P w = .ok (.tuple #[]) (w.setRow g (splice cur off zs).toArray) := by
  by_cases h0 : n = 0
  · subst h0
    obtain rfl : zs = [] := List.eq_nil_of_length_eq_zero hlen
    have e : w.setRow g (splice cur off []).toArray = w := by
      have : splice cur off [] = cur := by simp [splice]
      rw [this]
      exact setRow_self w g _ t _ hg
    rw [e]
    cases sp <;> simp [Builtin.clear_, run_underlying hu]
  · obtain rfl := hpos (by omega)
    have hst := run_storeCells_at P g off t zs 0 cur.toArray w hg (by simp; omega) hone
    obtain ⟨m, rfl⟩ : ∃ m, n = m + 1 := ⟨n - 1, by omega⟩
    simp [Builtin.clear_, run_underlying hu, zeroValue, typeInfo, hi, hz, hzs]
    simp at hst
    rw [hst]
    simp [splice]

theorem wpList_clear {P : Program} {w : World} {ops : Array Oper} {rest : List Oper} {o : Oper} {a : Act} {Q : Exit → Act → World → Prop} (hgd : o.guard = none) (s : Operand) (T : TypeId)
    (ho : o.op = .call { callee := .builtin .clear, args := #[s], argTypes := #[T] }) (elem : TypeId) (i : TypeInfo) (z : Value) (hu : P.underlying T = some (.slice elem)) (hi : P.info? elem = some i) (hz : i.zero = some z) (zs : List Value) (n : Nat)
    (hzs : (Builtin.zeroCells z.cells n).toList = zs) (hlen : zs.length = n) (hone : ∀ v ∈ zs, v.oneCell' = true)
    (sp : Option Addr) (cap g off : Nat) (cur : List Value) (t : TypeId) (hs : a.eval s = .slice sp n cap) (hg : w.heap[g]? = some (.cells cur.toArray t (0, 0))) (hpos : 0 < n → sp = some ⟨g, off, none⟩) (hfit : off + n ≤ cur.length)
    (h : wpList P ops Q rest (a.put o.dst (.tuple #[])) (w.setRow g (splice cur off zs).toArray)) : wpList P ops Q (o :: rest) a w := by
  refine wpList_plain hgd fun K hK => ?_
  have hrun := run_clear (P := P) w T o.type elem i z hu hi hz zs n hzs hlen hone sp cap g off cur t hg hpos hfit
  unfold Oper.wp
  simp [execOp, ho, resolve, invoke, builtin, hs, hrun, Result.andThen]
  exact hK _ _ h

theorem splice_map {α β : Type} (f : α → β) (L : List α) (off : Nat) (cs : List α) : splice (L.map f) off (cs.map f) = (splice L off cs).map f := by
  simp [splice, List.map_take, List.map_drop]

theorem turns_row {w : World} {a b : Nat} {ws : List Int} {c : Int} (h : IsAr w a b ws c) (d : Int) (off : Nat) (cs : List Int) (hf : off + cs.length ≤ ws.length) (vs : List Value) (hv : vs = cs.map (Value.int .u64)) :
    Turns a b (splice ws off cs) d w ((w.setCell ⟨a, 1, none⟩ (.int .i64 d)).setRow b (splice (ws.map (Value.int .u64)) off vs).toArray) := by
  subst hv
  have h1 := isAr_count h d
  refine ⟨⟨?_, ?_⟩, ((Frm.refl _ w).setCell (p := ⟨a, 1, none⟩) (fun _ => .inl rfl) _).setRow (fun _ => .inr rfl) _, by simp [World.setCell]⟩
  · rw [length_splice _ _ _ hf]
    exact h1.1.farRow h.ne
  · rw [splice_map]
    exact h1.2.row

set_option maxHeartbeats 1000000 in
theorem zero_nil (at_ n : Int) (w : World) :
    Calls Tryz.prog 126 #[.pointer none, .int .i64 at_, .int .i64 n] w fun e w' => e = .returned (.int .i64 2) ∧ w = w' := by
  go_enter Tryz.func126, Tryz.ntmps126
  go_wp2_with fail
  refine (has_nil _ _ _).mono ?_
  rintro e w' ⟨rfl, rfl⟩
  go_wp2
  go_ret
  exact ⟨rfl, rfl⟩

set_option maxHeartbeats 1000000 in
theorem zero_no (a b : Nat) (ws : List Int) (c at_ n : Int) (w : World) (h : IsAr w a b ws c) (hl : ws.length ≤ 1048576) (a1 : at_ ≤ 9223372036854775807) (hh : hasB ws.length at_ n = false) :
    Calls Tryz.prog 126 #[arP a, .int .i64 at_, .int .i64 n] w fun e w' => e = .returned (.int .i64 2) ∧ w = w' := by
  go_enter Tryz.func126, Tryz.ntmps126
  go_wp2_with fail
  refine (has_any a b ws c _ _ _ h hl a1).mono ?_
  rintro e w' ⟨rfl, rfl⟩
  go_wp2
  go_ret
  exact ⟨rfl, rfl⟩

theorem map_replicate0 (n : Nat) : List.replicate n (Value.int .u64 0) = (List.replicate n (0 : Int)).map (Value.int .u64) := by simp

set_option maxHeartbeats 1000000 in
theorem zero_yes (a b : Nat) (ws : List Int) (c : Int) (k n : Nat) (w : World) (h : IsAr w a b ws c) (hl : ws.length ≤ 1048576) (hk : k + n ≤ ws.length) :
    Calls Tryz.prog 126 #[arP a, .int .i64 k, .int .i64 n] w fun e w' => e = .returned (.int .i64 0) ∧ Turns a b (splice ws k (List.replicate n 0)) (addC c n) w w' := by
  have HT := Lib.hid (turns_row h (addC c n) k (List.replicate n 0) (by simpa using hk) _ (map_replicate0 n))
  have hh : hasB ws.length k n = true := (hasB_iff ..).2 ⟨by omega, by omega, by omega⟩
  have hn := h.ne
  obtain ⟨c0, c1, f1⟩ := h.cells
  have H := has_any a b ws c k n w h hl (by omega)
  have HH := Lib.hid H
  have HA := (isAr_count h (addC c n)).2
  have HF : k + n ≤ (ws.map (Value.int .u64)).length := by simpa using hk
  clear H h
  unfold u64s at HA
  generalize ws.map (Value.int .u64) = cur at *
  generalize ws.length = len at *
  obtain ⟨i, hi, hz, _, _⟩ := info_parts info_u64
  have hcl : ∀ sp cap, (0 < n → sp = some ⟨b, k, none⟩) → (Builtin.clear_ #[59] 0 #[.slice sp n cap]).run Tryz.prog (w.setCell ⟨a, 1, none⟩ (.int .i64 (wrap64 (c + n)))) =
      .ok (.tuple #[]) ((w.setCell ⟨a, 1, none⟩ (.int .i64 (addC c n))).setRow b (splice cur k (List.replicate n (Value.int .u64 0))).toArray) := by
    intro sp cap hsp
    exact run_clear (P := Tryz.prog) _ 59 0 51 i _ Tryz.underlying59 hi hz _ n (zeroU n) (by simp) (by intro v hv; rw [List.eq_of_mem_replicate hv]; rfl) sp cap b k cur _ HA hsp HF
  clear HA hi hz HF
  obtain ⟨zs, hzs⟩ : ∃ zs, zs = List.replicate n (Value.int .u64 0) := ⟨_, rfl⟩
  rw [← hzs] at hcl HT
  clear hzs
  by_cases hc : len = k
  · subst hc
    have h0 : n = 0 := by omega
    replace hcl := (congrArg (fun m => (Builtin.clear_ #[59] 0 #[.slice (some ⟨b, 0, none⟩) m 0]).run Tryz.prog (w.setCell ⟨a, 1, none⟩ (.int .i64 (wrap64 (c + n))))) h0).symm.trans (hcl (some ⟨b, 0, none⟩) 0 (by omega))
    clear h0
    go_enter Tryz.func126, Tryz.ntmps126
    go_wp2_with fail
    refine HH.out.mono ?_
    rintro e w' ⟨rfl, rfl⟩
    go_wp2
    go_ret
    exact ⟨rfl, HT.out⟩
  · replace hcl := hcl (some ⟨b, k, none⟩) (len - k) (fun _ => rfl)
    go_enter Tryz.func126, Tryz.ntmps126
    go_wp2_with fail
    refine HH.out.mono ?_
    rintro e w' ⟨rfl, rfl⟩
    go_wp2
    go_ret
    exact ⟨rfl, HT.out⟩

set_option maxHeartbeats 1000000 in
theorem copy_nil (x y n : Int) (w : World) :
    Calls Tryz.prog 122 #[.pointer none, .int .i64 x, .int .i64 y, .int .i64 n] w fun e w' => e = .returned (.int .i64 2) ∧ w = w' := by
  go_enter Tryz.func122, Tryz.ntmps122
  go_wp2_with fail
  refine (has_nil _ _ _).mono ?_
  rintro e w' ⟨rfl, rfl⟩
  go_wp2
  go_ret
  exact ⟨rfl, rfl⟩

set_option maxHeartbeats 1000000 in
theorem copy_no (a b : Nat) (ws : List Int) (c x y n : Int) (w : World) (h : IsAr w a b ws c) (hl : ws.length ≤ 1048576) (x1 : x ≤ 9223372036854775807) (y1 : y ≤ 9223372036854775807)
    (hh : hasB ws.length x n = false ∨ hasB ws.length y n = false) :
    Calls Tryz.prog 122 #[arP a, .int .i64 x, .int .i64 y, .int .i64 n] w fun e w' => e = .returned (.int .i64 2) ∧ w = w' := by
  cases hx : hasB ws.length x n
  · clear hh
    go_enter Tryz.func122, Tryz.ntmps122
    go_wp2_with fail
    refine (has_any a b ws c _ _ _ h hl x1).mono ?_
    rintro e w' ⟨rfl, rfl⟩
    go_wp2
    go_ret
    exact ⟨rfl, rfl⟩
  · have hy : hasB ws.length y n = false := by
      rcases hh with e | e
      · rw [hx] at e; cases e
      · exact e
    clear hh
    go_enter Tryz.func122, Tryz.ntmps122
    go_wp2_with fail
    refine (has_any a b ws c _ _ _ h hl x1).mono ?_
    rintro e w' ⟨rfl, rfl⟩
    go_wp2_with fail
    refine (has_any a b ws c _ _ _ h hl y1).mono ?_
    rintro e w' ⟨rfl, rfl⟩
    go_wp2
    go_ret
    exact ⟨rfl, rfl⟩
end Go.Proofs.YthmhehehomieiaaGreat

/- Contract of Copy. -/
namespace Go.Proofs.YthmhehehomieiaaGreat
open Go.RowKit

theorem run_copy_words {P : Program} (w : World) (T ty elem : TypeId) (hu : P.underlying T = some (.slice elem)) (hs : (P.info? elem).map (·.size) = some 1) (b : Nat) (cur : List Value) (t : TypeId) (hg : w.heap[b]? = some (.cells cur.toArray t (0, 0)))
    (dp sp : Option Addr) (dc sc x y n : Nat) (hd : 0 < n → dp = some ⟨b, y, none⟩ ∧ sp = some ⟨b, x, none⟩) (hx : x + n ≤ cur.length) (hy : y + n ≤ cur.length) (h1 : ∀ v ∈ cur, v.oneCell' = true) :
    (Builtin.copy_ #[T, T] ty #[.slice dp n dc, .slice sp n sc]).run P w = .ok (goInt n) (w.setRow b (splice cur y ((cur.drop x).take n)).toArray) := by
  by_cases h0 : n = 0
  · subst h0
    have e : w.setRow b (splice cur y ((cur.drop x).take 0)).toArray = w := by
      have : splice cur y ((cur.drop x).take 0) = cur := by simp [splice]
      rw [this]
      exact setRow_self w b _ t _ hg
    rw [e]
    exact run_copy_none (P := P) w T T ty elem dp sp 0 dc 0 sc hu hs (by simp)
  · obtain ⟨rfl, rfl⟩ := hd (by omega)
    have hlen : ((cur.drop x).take n).length = n := by simp; omega
    have h := run_copy_row (P := P) w T T ty elem b y n dc ⟨b, x, none⟩ n sc cur.toArray t ((cur.drop x).take n) hu hs hg (by rw [hlen]; simp)
      (by
        intro j v hj
        have hjn : j < n := by have := (List.getElem?_eq_some_iff.1 hj).1; rw [hlen] at this; exact this
        have hadd : (⟨b, x, none⟩ : Addr).add j = ⟨b, x + j, none⟩ := by unfold Addr.add; split <;> simp_all
        rw [hadd, cell_of_row w b (x + j) cur.toArray t (0, 0) hg]
        rw [List.getElem?_take, if_pos hjn, List.getElem?_drop] at hj
        simpa using hj)
      (by rw [hlen]; simpa using hy) (fun v hv => h1 v (List.mem_of_mem_drop (List.mem_of_mem_take hv)))
    rw [h, hlen]
    simp only [splice, hlen, List.append_assoc]

theorem Turns.drew {a b : Nat} {ws : List Int} {c : Int} {w w' : World} (h : Turns a b ws c w w') : Turns a b ws c w w'.drew :=
  ⟨⟨h.is.1.drew, h.is.2.drew⟩, h.frm.drew, h.size⟩

set_option maxHeartbeats 2000000 in
theorem copy_pos (a b : Nat) (ws : List Int) (c : Int) (x y n : Nat) (w : World) (h : IsAr w a b ws c) (hl : ws.length ≤ 1048576) (hx : x + n ≤ ws.length) (hy : y + n ≤ ws.length) (hpos : 0 < n) :
    Calls Tryz.prog 122 #[arP a, .int .i64 x, .int .i64 y, .int .i64 n] w fun e w' => e = .returned (.int .i64 0) ∧ Turns a b (splice ws y ((ws.drop x).take n)) (addC c (2 * n)) w w' := by
  have HT := Lib.hid (turns_row h (addC c (2 * n)) y ((ws.drop x).take n) (by simp; omega) _ rfl)
  have hhx : hasB ws.length x n = true := (hasB_iff ..).2 ⟨by omega, by omega, by omega⟩
  have hhy : hasB ws.length y n = true := (hasB_iff ..).2 ⟨by omega, by omega, by omega⟩
  have hn := h.ne
  obtain ⟨c0, c1, f1⟩ := h.cells
  have HX := Lib.hid (has_any a b ws c x n w h hl (by omega))
  have HY := Lib.hid (has_any a b ws c y n w h hl (by omega))
  have HA := (isAr_count h (addC c (2 * n))).2
  have hx' : x + n ≤ (ws.map (Value.int .u64)).length := by simpa using hx
  have hy' : y + n ≤ (ws.map (Value.int .u64)).length := by simpa using hy
  have h1 : ∀ v ∈ ws.map (Value.int .u64), v.oneCell' = true := by intro v hv; obtain ⟨q, _, rfl⟩ := List.mem_map.1 hv; rfl
  rw [List.map_take, List.map_drop] at HT
  unfold u64s at HA
  generalize ws.map (Value.int .u64) = cur at *
  have hcl := Eq.refl ws.length
  obtain ⟨len, hlen⟩ : ∃ len, len = ws.length := ⟨_, rfl⟩
  rw [← hlen] at hl hx hy hhx hhy c0 HX HY
  have HLen := Lib.hid hlen.symm
  clear hlen hcl
  obtain ⟨cs, hcs⟩ : ∃ cs, cs = (cur.drop x).take n := ⟨_, rfl⟩
  have hcp : ∀ dp sp dc sc ty, (0 < n → dp = some ⟨b, y, none⟩ ∧ sp = some ⟨b, x, none⟩) → (Builtin.copy_ #[59, 59] ty #[.slice dp n dc, .slice sp n sc]).run Tryz.prog (w.setCell ⟨a, 1, none⟩ (.int .i64 (addC c (2 * n)))).drew =
      .ok (goInt n) ((w.setCell ⟨a, 1, none⟩ (.int .i64 (addC c (2 * n)))).drew.setRow b (splice cur y cs).toArray) := by
    intro dp sp dc sc ty hd
    rw [hcs]
    exact run_copy_words (P := Tryz.prog) (w.setCell ⟨a, 1, none⟩ (.int .i64 (addC c (2 * n)))).drew 59 ty 51 Tryz.underlying59 (by kernel_rfl) b cur 51 HA dp sp dc sc x y n hd hx' hy' h1
  rw [← hcs] at HT
  have c2 := (isAr_count h (addC c (2 * n))).cells.1
  rw [HLen.out] at c2
  clear hcs HA hx' hy' h1 h HLen
  rw [show addC c (2 * n) = wrap64 (c + 2 * n) from rfl] at HT hcp c2 ⊢
  have q1 : IntKind.i64.wrap ((x : Int) + n) = x + n := IntWalk.i64_in _ (by omega)
  have q2 : IntKind.i64.wrap ((y : Int) + n) = y + n := IntWalk.i64_in _ (by omega)
  have q3 : ((x : Int) + n).toNat = x + n := by omega
  have q4 : ((y : Int) + n).toNat = y + n := by omega
  have q5 : x + n - x = n := by omega
  have q6 : y + n - y = n := by omega
  have Q := Lib.hid (And.intro q1 (And.intro q2 (And.intro q3 (And.intro q4 (And.intro q5 q6)))))
  clear q1 q2 q3 q4 q5 q6
  have hcx : ¬ len = x := by omega
  have hcy : ¬ len = y := by omega
  replace hcp := fun ty => hcp (some ⟨b, y, none⟩) (some ⟨b, x, none⟩) (len - y) (len - x) ty (fun _ => ⟨rfl, rfl⟩)
  have HCP := Lib.hid hcp
  have HC2 := Lib.hid c2
  clear hcp c2
  go_enter Tryz.func122, Tryz.ntmps122
  go_wp2_with fail
  refine HX.out.mono ?_
  rintro e w' ⟨rfl, rfl⟩
  go_wp2_with fail
  refine HY.out.mono ?_
  rintro e w' ⟨rfl, rfl⟩
  go_wp2
  have hcp := HCP.out
  have c2 := HC2.out
  clear HCP HC2
  generalize w.setCell ⟨a, 1, none⟩ (.int .i64 (wrap64 (c + 2 * n))) = w2 at *
  obtain ⟨q1, q2, q3, q4, q5, q6⟩ := Q.out
  go_region
  clear q1 q2 q3 q4 q5 q6
  go_wp2
  go_ret
  exact ⟨rfl, HT.out.drew⟩

set_option maxHeartbeats 2000000 in
theorem copy_zero (a b : Nat) (ws : List Int) (c : Int) (x y : Nat) (w : World) (h : IsAr w a b ws c) (hl : ws.length ≤ 1048576) (hx : x ≤ ws.length) (hy : y ≤ ws.length) :
    Calls Tryz.prog 122 #[arP a, .int .i64 x, .int .i64 y, .int .i64 0] w fun e w' => e = .returned (.int .i64 0) ∧ Turns a b ws (addC c 0) w w' := by
  have HT := Lib.hid (turns_count h (addC c 0))
  have hhx : hasB ws.length x 0 = true := (hasB_iff ..).2 ⟨by omega, by omega, by omega⟩
  have hhy : hasB ws.length y 0 = true := (hasB_iff ..).2 ⟨by omega, by omega, by omega⟩
  have hn := h.ne
  obtain ⟨c0, c1, f1⟩ := h.cells
  have HX := Lib.hid (has_any a b ws c x 0 w h hl (by omega))
  have HY := Lib.hid (has_any a b ws c y 0 w h hl (by omega))
  have c2 := (isAr_count h (addC c 0)).cells.1
  clear h
  generalize ws.length = len at *
  have hcp : ∀ w ty dp sp dc sc, (Builtin.copy_ #[59, 59] ty #[.slice dp 0 dc, .slice sp 0 sc]).run Tryz.prog w = .ok (goInt 0) w := fun w ty dp sp dc sc =>
    run_copy_none (P := Tryz.prog) w 59 59 ty 51 dp sp 0 dc 0 sc Tryz.underlying59 (by kernel_rfl) (by simp)
  rw [show addC c 0 = wrap64 (c + 0) from rfl, Int.add_zero] at HT c2 ⊢
  have HC2 := Lib.hid c2
  clear c2
  go_enter Tryz.func122, Tryz.ntmps122
  go_wp2_with fail
  refine HX.out.mono ?_
  rintro e w' ⟨rfl, rfl⟩
  go_wp2_with fail
  refine HY.out.mono ?_
  rintro e w' ⟨rfl, rfl⟩
  go_wp2
  have c2 := HC2.out
  clear HC2
  generalize w.setCell ⟨a, 1, none⟩ (.int .i64 (wrap64 c)) = w2 at *
  go_region
  all_goals go_wp2
  all_goals
    go_ret
    exact ⟨rfl, HT.out.drew⟩

theorem copy_yes (a b : Nat) (ws : List Int) (c : Int) (x y n : Nat) (w : World) (h : IsAr w a b ws c) (hl : ws.length ≤ 1048576) (hx : x + n ≤ ws.length) (hy : y + n ≤ ws.length) :
    Calls Tryz.prog 122 #[arP a, .int .i64 x, .int .i64 y, .int .i64 n] w fun e w' => e = .returned (.int .i64 0) ∧ Turns a b (splice ws y ((ws.drop x).take n)) (addC c (2 * n)) w w' := by
  by_cases h0 : n = 0
  · subst h0
    have e : splice ws y ((ws.drop x).take 0) = ws := by simp [splice]
    rw [e]
    exact copy_zero a b ws c x y w h hl (by omega) (by omega)
  · exact copy_pos a b ws c x y n w h hl hx hy (by omega)
end Go.Proofs.YthmhehehomieiaaGreat

/- Contracts over Int. -/
namespace Go.Proofs.YthmhehehomieiaaGreat
open Go.RowKit

section
variable (a b : Nat) (ws : List Int) (c : Int) (w : World) (h : IsAr w a b ws c) (hl : ws.length ≤ 1048576)
include h hl
theorem load_at (k x : Int) (h0 : 0 ≤ k) (hx : ws[k.toNat]? = some x) :
    Calls Tryz.prog 28 #[arP a, .int .i64 k] w fun e w' => e = .returned (.tuple #[.int .u64 x, .int .i64 0]) ∧ Turns a b ws (addC c 1) w w' := by
  have := load_yes a b ws c k.toNat x w h hl hx
  rwa [Int.toNat_of_nonneg h0] at this
theorem store_at (k x : Int) (h0 : 0 ≤ k) (hk : k.toNat < ws.length) :
    Calls Tryz.prog 146 #[arP a, .int .i64 k, .int .u64 x] w fun e w' => e = .returned (.int .i64 0) ∧ Turns a b (ws.set k.toNat x) (addC c 1) w w' := by
  have := store_yes a b ws c k.toNat x w h hl hk
  rwa [Int.toNat_of_nonneg h0] at this
theorem zero_at (k n : Int) (h0 : 0 ≤ k) (h1 : 0 ≤ n) (hk : k + n ≤ ws.length) :
    Calls Tryz.prog 126 #[arP a, .int .i64 k, .int .i64 n] w fun e w' => e = .returned (.int .i64 0) ∧ Turns a b (splice ws k.toNat (List.replicate n.toNat 0)) (addC c n) w w' := by
  have := zero_yes a b ws c k.toNat n.toNat w h hl (by omega)
  rwa [Int.toNat_of_nonneg h0, Int.toNat_of_nonneg h1] at this
theorem copy_at (x y n : Int) (h0 : 0 ≤ x) (h1 : 0 ≤ y) (h2 : 0 ≤ n) (hx : x + n ≤ ws.length) (hy : y + n ≤ ws.length) :
    Calls Tryz.prog 122 #[arP a, .int .i64 x, .int .i64 y, .int .i64 n] w fun e w' => e = .returned (.int .i64 0) ∧ Turns a b (splice ws y.toNat ((ws.drop x.toNat).take n.toNat)) (addC c (2 * n)) w w' := by
  have := copy_yes a b ws c x.toNat y.toNat n.toNat w h hl (by omega) (by omega)
  rwa [Int.toNat_of_nonneg h0, Int.toNat_of_nonneg h1, Int.toNat_of_nonneg h2] at this
end

theorem IsAr.to {w : World} {a b : Nat} {ws ws' : List Int} {c c' : Int} (h : IsAr w a b ws c) (e : ws = ws') (f : c = c') : IsAr w a b ws' c' := by subst e f; exact h

/-- What the fresh arena has done stays above what was there. -/
theorem below_turns {W w w' : World} {a b : Nat} {ws : List Int} {c : Int} (hb : Below W.heap.size W w) (t : Turns a b ws c w w') (ha : W.heap.size ≤ a) (hb' : W.heap.size ≤ b) : Below W.heap.size W w' :=
  Below.frm hb t.frm hb.size (fun k hk => by omega)
end Go.Proofs.YthmhehehomieiaaGreat

/- Contracts of the small functions of package head: within, flag, Good. -/
namespace Go.Proofs.YthmhehehomieiaaGreat
open Go.RowKit

def inB (n m : Int) : Bool := decide (0 ≤ n ∧ n ≤ m)

set_option maxHeartbeats 400000 in
theorem within_any (n m : Int) (w : World) :
    Calls Tryz.prog 163 #[.int .i64 n, .int .i64 m] w fun e w' => e = .returned (.bool (inB n m)) ∧ w = w' := by
  by_cases h0 : 0 ≤ n
  · by_cases h1 : n ≤ m
    · go_enter Tryz.func163, Tryz.ntmps163
      go_wp2
      go_ret
      exact ⟨by simp [inB, h0, h1], rfl⟩
    · go_enter Tryz.func163, Tryz.ntmps163
      go_wp2
      go_ret
      exact ⟨by simp [inB, h0, h1], rfl⟩
  · go_enter Tryz.func163, Tryz.ntmps163
    go_wp2
    go_ret
    exact ⟨by rw [show inB n m = false from by unfold inB; exact decide_eq_false (by omega)]; rfl, rfl⟩

def flagI (b : Bool) (n : Int) : Int := if b then n else 0

set_option maxHeartbeats 400000 in
theorem flag_any (b : Bool) (n : Int) (w : World) :
    Calls Tryz.prog 145 #[.bool b, .int .u64 n] w fun e w' => e = .returned (.int .u64 (flagI b n)) ∧ w = w' := by
  cases b
  · go_enter Tryz.func145, Tryz.ntmps145
    go_wp2
    go_ret
    exact ⟨rfl, rfl⟩
  · go_enter Tryz.func145, Tryz.ntmps145
    go_wp2
    go_ret
    exact ⟨rfl, rfl⟩

/-- A head as a value. -/
abbrev hdV (s p a y : Int) (g n o : Bool) : Value := .agg #[.int .i64 s, .int .i64 p, .int .i64 a, .int .i64 y, .bool g, .bool n, .bool o]

def goodB (s p a y : Int) : Bool := inB s 64 && (inB p s && (inB a 7 && inB y 1))

theorem goodB_iff (s p a y : Int) : goodB s p a y = true ↔ 0 ≤ s ∧ s ≤ 64 ∧ 0 ≤ p ∧ p ≤ s ∧ 0 ≤ a ∧ a ≤ 7 ∧ 0 ≤ y ∧ y ≤ 1 := by
  simp only [goodB, inB, Bool.and_eq_true, decide_eq_true_eq]
  constructor
  · rintro ⟨⟨_, _⟩, ⟨_, _⟩, ⟨_, _⟩, _, _⟩; omega
  · rintro ⟨_, _, _, _, _, _, _, _⟩; omega

set_option maxHeartbeats 1000000 in
theorem good_any (s p a y : Int) (g n o : Bool) (w : World) :
    Calls Tryz.prog 144 #[hdV s p a y g n o] w fun e w' => e = .returned (.bool (goodB s p a y)) ∧ Below w.heap.size w w' := by
  unfold goodB
  cases h1 : inB s 64
  case true =>
    cases h2 : inB p s
    case true =>
      cases h3 : inB a 7
      all_goals
        go_enter Tryz.func144, Tryz.ntmps144
        go_wp2_with (go_at_call 163; refine (within_any _ _ _).mono ?_; rintro e w' ⟨rfl, rfl⟩)
        go_ret
        exact ⟨by simp [*], (Below.refl _ _).alloc (Nat.le_refl _) _⟩
    case false =>
      go_enter Tryz.func144, Tryz.ntmps144
      go_wp2_with (go_at_call 163; refine (within_any _ _ _).mono ?_; rintro e w' ⟨rfl, rfl⟩)
      go_ret
      exact ⟨by simp [*], (Below.refl _ _).alloc (Nat.le_refl _) _⟩
  case false =>
    go_enter Tryz.func144, Tryz.ntmps144
    go_wp2_with (go_at_call 163; refine (within_any _ _ _).mono ?_; rintro e w' ⟨rfl, rfl⟩)
    go_ret
    exact ⟨by simp [*], (Below.refl _ _).alloc (Nat.le_refl _) _⟩
end Go.Proofs.YthmhehehomieiaaGreat

/- Plain lemmas on bits of 64-bit words, of no program. -/
namespace Go.Proofs.YthmhehehomieiaaGreat

theorem nat_or_lo (i x c : Nat) (h : x < 2 ^ i) : x ||| (c * 2 ^ i) = x + c * 2 ^ i := by
  rw [Nat.mul_comm, Nat.or_comm, ← Nat.two_pow_add_eq_or_of_lt h, Nat.add_comm]

theorem nat_or_bit (i x b : Nat) (h : x % 2 ^ (i + 1) < 2 ^ i) (hb : b = 0 ∨ b = 2 ^ i) : x ||| b = x + b := by
  rcases hb with rfl | rfl
  · simp
  · have hp : 2 ^ (i + 1) = 2 * 2 ^ i := by rw [Nat.pow_succ]; omega
    have e : x = 2 ^ (i + 1) * (x / 2 ^ (i + 1)) + x % 2 ^ (i + 1) := (Nat.div_add_mod _ _).symm
    generalize x / 2 ^ (i + 1) = q at *
    generalize x % 2 ^ (i + 1) = l at *
    subst e
    have e1 : 2 ^ (i + 1) * q + l = 2 ^ (i + 1) * q ||| l := Nat.two_pow_add_eq_or_of_lt (by omega) q
    have e2 : 2 ^ i * 1 + l = 2 ^ i * 1 ||| l := Nat.two_pow_add_eq_or_of_lt h 1
    have e3 : 2 ^ (i + 1) * q + (2 ^ i * 1 + l) = 2 ^ (i + 1) * q ||| (2 ^ i * 1 + l) := Nat.two_pow_add_eq_or_of_lt (by omega) q
    rw [e1, Nat.or_assoc, Nat.or_comm l, ← Nat.mul_one (2 ^ i), ← e2, ← e3, ← e1]
    omega

theorem pow_cast (i : Nat) (M : Int) (hM : (2 : Int) ^ i = M) : M = ((2 ^ i : Nat) : Int) := by rw [← hM]; simp

theorem or_lo (i : Nat) (M : Int) (hM : (2 : Int) ^ i = M) (x c : Int) (h0 : 0 ≤ x) (h1 : x < M) (hc : 0 ≤ c) (hb : c * M < 18446744073709551616) (hx : x < 18446744073709551616) :
    bits .or .u64 x (c * M) = x + c * M := by
  have hm := pow_cast i M hM
  clear hM
  generalize hq : 2 ^ i = q at hm
  subst hm
  obtain ⟨x, rfl⟩ := Int.eq_ofNat_of_zero_le h0
  obtain ⟨c, rfl⟩ := Int.eq_ofNat_of_zero_le hc
  have e : ((c : Int) * (q : Int)) = ((c * q : Nat) : Int) := by simp
  rw [e] at hb ⊢
  rw [u64_or_nat x (c * q) (by omega) (by omega), ← hq, nat_or_lo i x c (by omega)]
  simp

theorem or_bit (i : Nat) (M : Int) (hM : (2 : Int) ^ i = M) (x b : Int) (h0 : 0 ≤ x) (hx : x < 18446744073709551616) (h : x % (2 * M) < M) (hb : b = 0 ∨ b = M) (hbm : b < 18446744073709551616) :
    bits .or .u64 x b = x + b := by
  have hm := pow_cast i M hM
  clear hM
  generalize hq : 2 ^ i = q at hm
  subst hm
  obtain ⟨x, rfl⟩ := Int.eq_ofNat_of_zero_le h0
  obtain ⟨b, rfl⟩ := Int.eq_ofNat_of_zero_le (show 0 ≤ b by omega)
  rw [u64_or_nat x b (by omega) (by omega), nat_or_bit i x b]
  · simp
  · rw [Nat.pow_succ, hq, Nat.mul_comm]; exact_mod_cast h
  · rw [hq]; omega

theorem or_bit1 (i : Nat) (M : Int) (hM : (2 : Int) ^ i = M) (x B : Int) (h0 : 0 ≤ x) (hx : x < 18446744073709551616) (h : x % (2 * M) < M) (hB0 : 0 ≤ B) (hB1 : B ≤ 1) (hM64 : M < 18446744073709551616) :
    bits .or .u64 x (M * B) = x + M * B := by
  have hB : B = 0 ∨ B = 1 := by omega
  rcases hB with rfl | rfl
  · exact or_bit i M hM x _ h0 hx h (by simp) (by simp)
  · exact or_bit i M hM x _ h0 hx h (by simp) (by simpa using hM64)

theorem nat_and_bit (i x : Nat) : x &&& 2 ^ i = 2 ^ i * (x / 2 ^ i % 2) := by
  apply Nat.eq_of_testBit_eq
  intro j
  rw [Nat.testBit_and, Nat.testBit_two_pow]
  by_cases h : i = j
  · subst h
    rw [Nat.testBit_two_pow_mul]
    simp [Nat.testBit, Nat.shiftRight_eq_div_pow]
  · rw [Nat.testBit_two_pow_mul]
    have : j ≠ i := fun e => h e.symm
    by_cases hj : i ≤ j
    · have h1 : x / 2 ^ i % 2 < 2 ^ (j - i) := Nat.lt_of_lt_of_le (Nat.mod_lt _ (by omega)) (Nat.le_trans (by omega : 2 ≤ 2 ^ 1) (Nat.pow_le_pow_right (by omega) (by omega)))
      simp [h, Nat.testBit_lt_two_pow h1]
    · simp [h, hj]

/-- One bit of a word. -/
def bitB (m x : Int) : Bool := decide (x / m % 2 = 1)

theorem and_bit (i : Nat) (M : Int) (hM : (2 : Int) ^ i = M) (hM64 : M < 18446744073709551616) (x : Int) (h0 : 0 ≤ x) (hx : x < 18446744073709551616) :
    (bits .and .u64 x M != 0) = bitB M x := by
  have hm := pow_cast i M hM
  clear hM
  have hp := Nat.two_pow_pos i
  generalize hq : 2 ^ i = q at hm hp
  subst hm
  obtain ⟨x, rfl⟩ := Int.eq_ofNat_of_zero_le h0
  rw [u64_and_nat x q (by omega) (by omega), ← hq, nat_and_bit, hq]
  have e : ((x : Int) / (q : Int) % 2) = ((x / q % 2 : Nat) : Int) := by simp
  rw [bitB, e]
  rcases Nat.mod_two_eq_zero_or_one (x / q) with h | h <;> rw [h] <;> simp <;> omega

theorem and_mask (i : Nat) (M N : Int) (hM : (2 : Int) ^ i = N) (hN : M + 1 = N) (hM64 : M < 18446744073709551616) (x : Int) (h0 : 0 ≤ x) (hx : x < 18446744073709551616) :
    bits .and .u64 x M = x % N := by
  have hm := pow_cast i N hM
  have hp := Nat.two_pow_pos i
  clear hM
  obtain ⟨x, rfl⟩ := Int.eq_ofNat_of_zero_le h0
  have e : M = ((2 ^ i - 1 : Nat) : Int) := by omega
  have e2 := u64_and_nat x (2 ^ i - 1) (by omega) (by omega)
  rw [e, e2, Nat.and_two_pow_sub_one_eq_mod, hm, Int.natCast_emod]
end Go.Proofs.YthmhehehomieiaaGreat

/- Contract of Pack: what is no head is refused; what is one is its word, a sum of powers of two. -/
namespace Go.Proofs.YthmhehehomieiaaGreat
open Go.RowKit

set_option maxHeartbeats 1000000 in
theorem pack_no (s p a y : Int) (g n o : Bool) (w : World) (h : goodB s p a y = false) :
    Calls Tryz.prog 114 #[hdV s p a y g n o] w fun e w' => e = .returned (.tuple #[.int .u64 0, .bool false]) ∧ Below w.heap.size w w' := by
  go_enter Tryz.func114, Tryz.ntmps114
  go_wp2_with fail
  refine (good_any s p a y g n o _).mono ?_
  rintro e w' ⟨rfl, hg⟩
  go_wp2
  go_ret2
  exact ⟨rfl, below_alloc_trans _ hg⟩

/-- A head's word. -/
def wordI (s p a y : Int) (g n o : Bool) : Int :=
  17592186044416 + s + 65536 * p + 4294967296 * a + 1099511627776 * y + flagI g 2199023255552 + flagI n 4398046511104 + flagI o 8796093022208

theorem flagI_mul (b : Bool) (n : Int) : ∃ B : Int, 0 ≤ B ∧ B ≤ 1 ∧ flagI b n = n * B := by
  cases b
  · exact ⟨0, by omega, by omega, by simp [flagI]⟩
  · exact ⟨1, by omega, by omega, by simp [flagI]⟩

theorem flags_or (L Y G N O : Int) (h0 : 0 ≤ L) (h1 : L < 1099511627776) (y0 : 0 ≤ Y) (y1 : Y ≤ 1) (g0 : 0 ≤ G) (g1 : G ≤ 1) (n0 : 0 ≤ N) (n1 : N ≤ 1) (o0 : 0 ≤ O) (o1 : O ≤ 1) :
    bits .or .u64 (bits .or .u64 (bits .or .u64 (bits .or .u64 (bits .or .u64 L 17592186044416) (1099511627776 * Y)) (2199023255552 * G)) (4398046511104 * N)) (8796093022208 * O) =
      17592186044416 + L + 1099511627776 * Y + 2199023255552 * G + 4398046511104 * N + 8796093022208 * O := by
  have e3 : bits .or .u64 L (17592186044416 * 1) = L + 17592186044416 * 1 := or_bit1 44 17592186044416 (by simp) L 1 (by omega) (by omega) (by omega) (by omega) (by omega) (by omega)
  rw [Int.mul_one] at e3
  rw [e3, or_bit1 40 1099511627776 (by simp) _ Y (by omega) (by omega) (by omega) y0 y1 (by omega),
    or_bit1 41 2199023255552 (by simp) _ G (by omega) (by omega) (by omega) g0 g1 (by omega),
    or_bit1 42 4398046511104 (by simp) _ N (by omega) (by omega) (by omega) n0 n1 (by omega),
    or_bit1 43 8796093022208 (by simp) _ O (by omega) (by omega) (by omega) o0 o1 (by omega)]
  omega

theorem packed (s p a y : Int) (g n o : Bool) (h : goodB s p a y = true) :
    bits .or .u64 (bits .or .u64 (bits .or .u64 (bits .or .u64 (bits .or .u64 (bits .or .u64 (bits .or .u64 s (p * 65536)) (a * 4294967296)) 17592186044416) (flagI (y == 1) 1099511627776)) (flagI g 2199023255552)) (flagI n 4398046511104)) (flagI o 8796093022208) = wordI s p a y g n o := by
  obtain ⟨s0, s1, p0, p1, a0, a1, y0, y1⟩ := (goodB_iff ..).1 h
  have ey : flagI (y == 1) 1099511627776 = 1099511627776 * y := by
    have : y = 0 ∨ y = 1 := by omega
    rcases this with rfl | rfl <;> rfl
  obtain ⟨G, G0, G1, eg⟩ := flagI_mul g 2199023255552
  obtain ⟨N, N0, N1, en⟩ := flagI_mul n 4398046511104
  obtain ⟨O, O0, O1, eo⟩ := flagI_mul o 8796093022208
  unfold wordI
  rw [ey, eg, en, eo]
  clear ey eg en eo h
  rw [or_lo 16 65536 (by simp) s p s0 (by omega) p0 (by omega) (by omega), or_lo 32 4294967296 (by simp) _ a (by omega) (by omega) a0 (by omega) (by omega),
    flags_or _ y G N O (by omega) (by omega) y0 y1 G0 G1 N0 N1 O0 O1]
  omega

theorem ret2_int {k : IntKind} {a b : Int} {v : Value} (h : a = b) : Ending.returned (.tuple #[.int k a, v]) = .returned (.tuple #[.int k b, v]) := by rw [h]

set_option maxHeartbeats 1000000 in
theorem pack_yes (s p a y : Int) (g n o : Bool) (w : World) (h : goodB s p a y = true) :
    Calls Tryz.prog 114 #[hdV s p a y g n o] w fun e w' => e = .returned (.tuple #[.int .u64 (wordI s p a y g n o), .bool true]) ∧ Below w.heap.size w w' := by
  have hp := packed s p a y g n o h
  obtain ⟨s0, s1, p0, p1, a0, a1, y0, y1⟩ := (goodB_iff ..).1 h
  generalize wordI s p a y g n o = W at *
  have HP := Lib.hid hp
  clear hp
  go_enter Tryz.func114, Tryz.ntmps114
  go_wp2_with fail
  refine (good_any s p a y g n o _).mono ?_
  rintro e w' ⟨rfl, hg⟩
  obtain ⟨hc, hf⟩ := kept_cells hg
  go_wp2_with (go_at_call 145; refine (flag_any _ _ _).mono ?_; rintro e w' ⟨rfl, rfl⟩)
  go_ret2
  exact ⟨ret2_int HP.out, below_alloc_trans _ hg⟩
end Go.Proofs.YthmhehehomieiaaGreat

/- Contracts of split and Unpack: the numbers and flags of a word; a head just where packing them again is that word. -/
namespace Go.Proofs.YthmhehehomieiaaGreat
open Go.RowKit

def sS (x : Int) : Int := x % 65536
def sP (x : Int) : Int := x / 65536 % 65536
def sA (x : Int) : Int := x / 4294967296 % 256
def sY (x : Int) : Int := flagI (bitB 1099511627776 x) 1
def sG (x : Int) : Bool := bitB 2199023255552 x
def sN (x : Int) : Bool := bitB 4398046511104 x
def sO (x : Int) : Bool := bitB 8796093022208 x

theorem wrap64_in (n : Int) (h0 : 0 ≤ n) (h1 : n ≤ 65535) : wrap64 n = n := by
  unfold wrap64; omega

set_option maxHeartbeats 1000000 in
theorem split_any (x : Int) (h0 : 0 ≤ x) (h1 : x < 18446744073709551616) (w : World) :
    Calls Tryz.prog 139 #[.int .u64 x] w fun e w' => e = .returned (hdV (sS x) (sP x) (sA x) (sY x) (sG x) (sN x) (sO x)) ∧ Below w.heap.size w w' := by
  have b1 : bits .and .u64 x 65535 = sS x := and_mask 16 65535 65536 (by simp) (by simp) (by simp) x h0 h1
  have b2 : bits .and .u64 (x / 65536) 65535 = sP x := and_mask 16 65535 65536 (by simp) (by simp) (by simp) (x / 65536) (by omega) (by omega)
  have b3 : bits .and .u64 (x / 4294967296) 255 = sA x := and_mask 8 255 256 (by simp) (by simp) (by simp) (x / 4294967296) (by omega) (by omega)
  have b4 : (bits .and .u64 x 1099511627776 != 0) = bitB 1099511627776 x := and_bit 40 _ (by simp) (by simp) x h0 h1
  have b5 : (bits .and .u64 x 2199023255552 != 0) = sG x := and_bit 41 _ (by simp) (by simp) x h0 h1
  have b6 : (bits .and .u64 x 4398046511104 != 0) = sN x := and_bit 42 _ (by simp) (by simp) x h0 h1
  have b7 : (bits .and .u64 x 8796093022208 != 0) = sO x := and_bit 43 _ (by simp) (by simp) x h0 h1
  have c1 : 0 ≤ sS x ∧ sS x ≤ 65535 := by unfold sS; omega
  have c2 : 0 ≤ sP x ∧ sP x ≤ 65535 := by unfold sP; omega
  have c3 : 0 ≤ sA x ∧ sA x ≤ 65535 := by unfold sA; omega
  have w1 := wrap64_in (sS x) c1.1 c1.2
  have w2 := wrap64_in (sP x) c2.1 c2.2
  have w3 := wrap64_in (sA x) c3.1 c3.2
  clear c1 c2 c3
  cases by1 : bitB 1099511627776 x
  · have ey : sY x = 0 := by unfold sY; rw [by1]; rfl
    rw [ey]
    clear ey
    go_enter Tryz.func139, Tryz.ntmps139
    go_wp2
    exact bodyPost_ret (v := hdV (sS x) (sP x) (sA x) 0 (sG x) (sN x) (sO x)) (by simp [results, Tryz.results139, go_sem]) rfl ⟨rfl, ((Below.refl _ _).alloc (Nat.le_refl _) _).alloc (by simp) _⟩
  · have ey : sY x = 1 := by unfold sY; rw [by1]; rfl
    rw [ey]
    clear ey
    go_enter Tryz.func139, Tryz.ntmps139
    go_wp2
    exact bodyPost_ret (v := hdV (sS x) (sP x) (sA x) 1 (sG x) (sN x) (sO x)) (by simp [results, Tryz.results139, go_sem]) rfl ⟨rfl, ((Below.refl _ _).alloc (Nat.le_refl _) _).alloc (by simp) _⟩

/-- Is the word a head's? -/
def isHd (x : Int) : Bool := goodB (sS x) (sP x) (sA x) (sY x) && (wordI (sS x) (sP x) (sA x) (sY x) (sG x) (sN x) (sO x) == x)

/-- The head of a word, or the empty one. -/
abbrev unV (x : Int) : Value := hdV (sS x) (sP x) (sA x) (sY x) (sG x) (sN x) (sO x)
abbrev noV : Value := hdV 0 0 0 0 false false false

theorem below_set7 {w w' : World} {B : Nat} (h : Below B w w') (b : Nat) (hb : B ≤ b) (v0 v1 v2 v3 v4 v5 v6 : Value) :
    Below B w (((((((w'.setCell ⟨b, 0, none⟩ v0).setCell ⟨b, 1, none⟩ v1).setCell ⟨b, 2, none⟩ v2).setCell ⟨b, 3, none⟩ v3).setCell ⟨b, 4, none⟩ v4).setCell ⟨b, 5, none⟩ v5).setCell ⟨b, 6, none⟩ v6) :=
  ((((((h.setCell (p := ⟨b, 0, none⟩) hb v0).setCell (p := ⟨b, 1, none⟩) hb v1).setCell (p := ⟨b, 2, none⟩) hb v2).setCell (p := ⟨b, 3, none⟩) hb v3).setCell (p := ⟨b, 4, none⟩) hb v4).setCell (p := ⟨b, 5, none⟩) hb v5).setCell (p := ⟨b, 6, none⟩) hb v6

set_option maxHeartbeats 1000000 in
theorem unpack_no (x : Int) (h0 : 0 ≤ x) (h1 : x < 18446744073709551616) (w : World) (h : isHd x = false) :
    Calls Tryz.prog 105 #[.int .u64 x] w fun e w' => e = .returned (.tuple #[noV, .bool false]) ∧ Below w.heap.size w w' := by
  unfold isHd at h
  cases hg : goodB (sS x) (sP x) (sA x) (sY x)
  · clear h
    go_enter Tryz.func105, Tryz.ntmps105
    go_wp2_with fail
    refine (split_any x h0 h1 _).mono ?_
    rintro e w1 ⟨rfl, b1⟩
    have k1 := (Blk.new w _ _).keep b1
    go_wp2_with fail
    refine (pack_no _ _ _ _ _ _ _ _ hg).mono ?_
    rintro e w2 ⟨rfl, b2⟩
    obtain ⟨c0, c1, c2, c3, c4, c5, c6, fz⟩ := ((k1.alloc _).keep b2).seven
    go_wp2
    exact bodyPost_ret (v := .tuple #[noV, .bool false]) (by simp [results, Tryz.results105, go_sem, c0, c1, c2, c3, c4, c5, c6]) rfl ⟨rfl, below_set7 (below_trans (below_alloc_trans _ b1) (below_alloc_trans _ b2)) _ (Nat.le_refl _) _ _ _ _ _ _ _⟩
  · have hne : (wordI (sS x) (sP x) (sA x) (sY x) (sG x) (sN x) (sO x) != x) = true := by
      rw [hg] at h
      simpa using h
    clear h
    go_enter Tryz.func105, Tryz.ntmps105
    go_wp2_with fail
    refine (split_any x h0 h1 _).mono ?_
    rintro e w1 ⟨rfl, b1⟩
    have k1 := (Blk.new w _ _).keep b1
    go_wp2_with fail
    refine (pack_yes _ _ _ _ _ _ _ _ hg).mono ?_
    rintro e w2 ⟨rfl, b2⟩
    obtain ⟨c0, c1, c2, c3, c4, c5, c6, fz⟩ := ((k1.alloc _).keep b2).seven
    go_wp2
    exact bodyPost_ret (v := .tuple #[noV, .bool false]) (by simp [results, Tryz.results105, go_sem, c0, c1, c2, c3, c4, c5, c6]) rfl ⟨rfl, below_set7 (below_trans (below_alloc_trans _ b1) (below_alloc_trans _ b2)) _ (Nat.le_refl _) _ _ _ _ _ _ _⟩

set_option maxHeartbeats 1000000 in
theorem unpack_yes (x : Int) (h0 : 0 ≤ x) (h1 : x < 18446744073709551616) (w : World) (h : isHd x = true) :
    Calls Tryz.prog 105 #[.int .u64 x] w fun e w' => e = .returned (.tuple #[unV x, .bool true]) ∧ Below w.heap.size w w' := by
  simp only [isHd, Bool.and_eq_true] at h
  obtain ⟨hg, h⟩ := h
  have hne : (wordI (sS x) (sP x) (sA x) (sY x) (sG x) (sN x) (sO x) != x) = false := by simpa using h
  clear h
  go_enter Tryz.func105, Tryz.ntmps105
  go_wp2_with fail
  refine (split_any x h0 h1 _).mono ?_
  rintro e w1 ⟨rfl, b1⟩
  have k1 := (Blk.new w _ _).keep b1
  go_wp2_with fail
  refine (pack_yes _ _ _ _ _ _ _ _ hg).mono ?_
  rintro e w2 ⟨rfl, b2⟩
  obtain ⟨c0, c1, c2, c3, c4, c5, c6, fz⟩ := ((k1.alloc _).keep b2).seven
  obtain ⟨d0, d1, d2, d3, d4, d5, d6, gz⟩ := ((Blk.new w1 _ _).keep b2).seven
  go_wp2
  exact bodyPost_ret (v := .tuple #[unV x, .bool true]) (by simp [results, Tryz.results105, go_sem, c0, c1, c2, c3, c4, c5, c6]) rfl ⟨rfl, below_set7 (below_trans (below_alloc_trans _ b1) (below_alloc_trans _ b2)) _ (Nat.le_refl _) _ _ _ _ _ _ _⟩

/-- A head's word gives that head back. -/
theorem split_word (s p a y : Int) (g n o : Bool) (h : goodB s p a y = true) :
    sS (wordI s p a y g n o) = s ∧ sP (wordI s p a y g n o) = p ∧ sA (wordI s p a y g n o) = a ∧ sY (wordI s p a y g n o) = y ∧ sG (wordI s p a y g n o) = g ∧ sN (wordI s p a y g n o) = n ∧ sO (wordI s p a y g n o) = o := by
  obtain ⟨s0, s1, p0, p1, a0, a1, y0, y1⟩ := (goodB_iff ..).1 h
  clear h
  have hy : y = 0 ∨ y = 1 := by omega
  unfold sS sP sA sY sG sN sO bitB wordI
  rcases hy with rfl | rfl <;> cases g <;> cases n <;> cases o <;> simp only [flagI, if_true, if_false, Bool.false_eq_true, decide_eq_true_eq, decide_eq_false_iff_not] <;>
    refine ⟨by omega, by omega, by omega, ?_, by omega, by omega, by omega⟩ <;> first | (rw [if_neg (by omega)]) | (rw [if_pos (by omega)])

theorem word_bounds (s p a y : Int) (g n o : Bool) (h : goodB s p a y = true) : 17592186044416 ≤ wordI s p a y g n o ∧ wordI s p a y g n o < 35184372088832 := by
  obtain ⟨s0, s1, p0, p1, a0, a1, y0, y1⟩ := (goodB_iff ..).1 h
  clear h
  unfold wordI
  cases g <;> cases n <;> cases o <;> simp only [flagI, if_true, if_false, Bool.false_eq_true] <;> omega

theorem isHd_word (s p a y : Int) (g n o : Bool) (h : goodB s p a y = true) : isHd (wordI s p a y g n o) = true := by
  obtain ⟨e1, e2, e3, e4, e5, e6, e7⟩ := split_word s p a y g n o h
  unfold isHd
  rw [e1, e2, e3, e4, e5, e6, e7, h]
  simp

theorem isHd_iff (x : Int) : isHd x = true ↔ ∃ s p a y g n o, goodB s p a y = true ∧ wordI s p a y g n o = x := by
  constructor
  · intro h
    simp only [isHd, Bool.and_eq_true, beq_iff_eq] at h
    exact ⟨_, _, _, _, _, _, _, h.1, h.2⟩
  · rintro ⟨s, p, a, y, g, n, o, h, rfl⟩
    exact isHd_word s p a y g n o h
end Go.Proofs.YthmhehehomieiaaGreat

/- Contracts of the document's Good and Word. -/
namespace Go.Proofs.YthmhehehomieiaaGreat
open Go.RowKit


end Go.Proofs.YthmhehehomieiaaGreat

/- Objects in an arena: what a call of package obj may turn; contracts of its small functions. -/
namespace Go.Proofs.YthmhehehomieiaaGreat
open Go.RowKit

/-- Block a is an arena whose words ws lie in block b. -/
def Has (w : World) (a b : Nat) (ws : List Int) : Prop := ∃ c, IsAr w a b ws c

/-- Of what was there only the arena has turned: its words are ws now. -/
structure Now (a b : Nat) (ws : List Int) (w w' : World) : Prop where
  is : Has w' a b ws
  frm : Frm (fun k => k = a ∨ k = b) w w'

section
variable {w w' w'' : World} {a b : Nat} {ws vs : List Int} {c : Int}
theorem Turns.now (t : Turns a b ws c w w') : Now a b ws w w' := ⟨⟨c, t.is⟩, t.frm⟩
theorem Has.keep (h : Has w a b ws) (f : Below w.heap.size w w') : Has w' a b ws := ⟨h.choose, h.choose_spec.keep f⟩
theorem Has.alloc (h : Has w a b ws) (o : Obj) : Has (w.alloc o) a b ws := ⟨h.choose, h.choose_spec.alloc o⟩
theorem Has.now (h : Has w a b ws) (f : Below w.heap.size w w') : Now a b ws w w' := ⟨h.keep f, Frm.of_below f⟩
theorem Has.stay (h : Has w a b ws) : Now a b ws w w := ⟨h, Frm.refl _ _⟩
theorem Now.trans (h : Now a b ws w w') (k : Now a b vs w' w'') : Now a b vs w w'' := ⟨k.is, h.frm.trans k.frm fun _ _ e => e⟩
theorem Now.pre (f : Below w.heap.size w w') (k : Now a b ws w' w'') : Now a b ws w w'' := ⟨k.is, (Frm.of_below f).trans k.frm fun _ _ e => e⟩
theorem Now.post (k : Now a b ws w w') (f : Below w'.heap.size w' w'') : Now a b ws w w'' := ⟨k.is.keep f, k.frm.trans (S' := fun _ => False) (Frm.of_below f) fun _ _ e => e.elim⟩
theorem Now.pre_alloc {o : Obj} (k : Now a b ws (w.alloc o) w'') : Now a b ws w w'' := k.pre ((Below.refl _ w).alloc (Nat.le_refl _) o)
end

def plB (at_ : Int) : Bool := decide (0 ≤ at_) && decide (at_ ≤ 1048576)
def fdB (n : Int) : Bool := decide (0 ≤ n) && decide (n < 64)

theorem plB_yes {x : Int} (h0 : 0 ≤ x) (h1 : x ≤ 1048576) : plB x = true := by simp [plB, h0, h1]
theorem plB_no {x : Int} (h : x < 0 ∨ 1048576 < x) : plB x = false := by
  rw [plB, Bool.and_eq_false_iff, decide_eq_false_iff_not, decide_eq_false_iff_not]; omega
theorem fdB_yes {x : Int} (h0 : 0 ≤ x) (h1 : x < 64) : fdB x = true := by simp [fdB, h0, h1]
theorem fdB_no {x : Int} (h : x < 0 ∨ 64 ≤ x) : fdB x = false := by
  rw [fdB, Bool.and_eq_false_iff, decide_eq_false_iff_not, decide_eq_false_iff_not]; omega

set_option maxHeartbeats 400000 in
theorem isPlace_any (x : Int) (w : World) : Calls Tryz.prog 121 #[.int .i64 x] w fun e w' => e = .returned (.bool (plB x)) ∧ w = w' := by
  unfold plB
  by_cases h0 : 0 ≤ x
  · have e0 : decide (0 ≤ x) = true := decide_eq_true h0
    rw [e0]
    go_enter Tryz.func121, Tryz.ntmps121
    go_wp2
    go_ret
    exact ⟨ret_bool (by simp), rfl⟩
  · have e0 : decide (0 ≤ x) = false := decide_eq_false h0
    rw [e0]
    go_enter Tryz.func121, Tryz.ntmps121
    go_wp2
    go_ret
    exact ⟨rfl, rfl⟩

set_option maxHeartbeats 400000 in
theorem isField_any (x : Int) (w : World) : Calls Tryz.prog 127 #[.int .i64 x] w fun e w' => e = .returned (.bool (fdB x)) ∧ w = w' := by
  unfold fdB
  by_cases h0 : 0 ≤ x
  · have e0 : decide (0 ≤ x) = true := decide_eq_true h0
    rw [e0]
    go_enter Tryz.func127, Tryz.ntmps127
    go_wp2
    go_ret
    exact ⟨ret_bool (by simp), rfl⟩
  · have e0 : decide (0 ≤ x) = false := decide_eq_false h0
    rw [e0]
    go_enter Tryz.func127, Tryz.ntmps127
    go_wp2
    go_ret
    exact ⟨rfl, rfl⟩

set_option maxHeartbeats 400000 in
theorem oWords_any (s p a y : Int) (g n o : Bool) (w : World) (h0 : 0 ≤ s) (h1 : s ≤ 64) :
    Calls Tryz.prog 82 #[hdV s p a y g n o] w fun e w' => e = .returned (.int .i64 (s + 2)) ∧ Below w.heap.size w w' := by
  go_enter Tryz.func82, Tryz.ntmps82
  go_wp2
  go_ret
  exact ⟨rfl, (Below.refl _ _).alloc (Nat.le_refl _) _⟩

/-- The n-th word of the object at a place is there. -/
def InW (len : Nat) (at_ n : Int) : Prop := 0 ≤ at_ ∧ at_ + n < len

theorem wrap_add {x n : Int} (h0 : 0 ≤ x) (h1 : x ≤ 1048576) (n0 : 0 ≤ n) (n1 : n ≤ 65) : IntKind.i64.wrap (x + n) = x + n := IntWalk.i64_in _ (by omega)

set_option maxHeartbeats 1000000 in
theorem oLoad_yes (a b : Nat) (ws : List Int) (w : World) (h : Has w a b ws) (hl : ws.length ≤ 1048576) (at_ n x : Int) (n0 : 0 ≤ n) (n1 : n ≤ 65) (hi : InW ws.length at_ n) (hx : ws[(at_ + n).toNat]? = some x) :
    Calls Tryz.prog 104 #[arP a, .int .i64 at_, .int .i64 n] w fun e w' => e = .returned (.tuple #[.int .u64 x, .int .i64 0]) ∧ Now a b ws w w' := by
  obtain ⟨h0, h1⟩ := hi
  have HX := Lib.hid hx
  have HH := Lib.hid h
  have HL := Lib.hid hl
  have P1 := Lib.hid (plB_yes (x := at_) h0 (by omega))
  have p1 : at_ ≤ 1048576 := by omega
  clear hx h hl h1
  go_enter Tryz.func104, Tryz.ntmps104
  go_wp2_with fail
  refine (isPlace_any _ _).mono ?_
  rintro e w1 ⟨he, rfl⟩
  obtain rfl : e = .returned (.bool true) := he.trans (ret_bool P1.out)
  go_wp2_with fail
  obtain ⟨c, hc⟩ := HH.out
  refine (load_at _ _ _ _ _ hc HL.out (at_ + n) x (by omega) HX.out).mono ?_
  rintro e w1 ⟨rfl, t⟩
  clear hc
  go_wp2
  go_ret2
  exact ⟨rfl, t.now⟩

set_option maxHeartbeats 1000000 in
theorem oLoad_no (a b : Nat) (ws : List Int) (w : World) (h : Has w a b ws) (hl : ws.length ≤ 1048576) (at_ n : Int) (n0 : 0 ≤ n) (n1 : n ≤ 65) (hi : ¬ InW ws.length at_ n) :
    Calls Tryz.prog 104 #[arP a, .int .i64 at_, .int .i64 n] w fun e w' => e = .returned (.tuple #[.int .u64 0, .int .i64 2]) ∧ w = w' := by
  unfold InW at hi
  have HI := Lib.hid hi
  have HH := Lib.hid h
  have HL := Lib.hid hl
  clear h hl hi
  cases P1 : plB at_
  · have P1 := Lib.hid P1
    go_enter Tryz.func104, Tryz.ntmps104
    go_wp2_with fail
    refine (isPlace_any _ _).mono ?_
    rintro e w1 ⟨he, rfl⟩
    obtain rfl : e = .returned (.bool false) := he.trans (ret_bool P1.out)
    go_wp2
    go_ret2
    exact ⟨rfl, rfl⟩
  · have h0 : 0 ≤ at_ ∧ at_ ≤ 1048576 := by simpa [plB] using P1
    have P1 := Lib.hid P1
    obtain ⟨h0, h1⟩ := h0
    go_enter Tryz.func104, Tryz.ntmps104
    go_wp2_with fail
    refine (isPlace_any _ _).mono ?_
    rintro e w1 ⟨he, rfl⟩
    obtain rfl : e = .returned (.bool true) := he.trans (ret_bool P1.out)
    go_wp2_with fail
    obtain ⟨c, hc⟩ := HH.out
    refine (load_no _ _ _ _ (at_ + n) _ hc HL.out (by omega) ((hasB_no ..).2 (by have := HI.out; omega))).mono ?_
    rintro e w1 ⟨rfl, rfl⟩
    clear hc
    go_wp2
    go_ret2
    exact ⟨rfl, rfl⟩

set_option maxHeartbeats 1000000 in
theorem oStore_yes (a b : Nat) (ws : List Int) (w : World) (h : Has w a b ws) (hl : ws.length ≤ 1048576) (at_ n x : Int) (n0 : 0 ≤ n) (n1 : n ≤ 65) (hi : InW ws.length at_ n) :
    Calls Tryz.prog 115 #[arP a, .int .i64 at_, .int .i64 n, .int .u64 x] w fun e w' => e = .returned (.int .i64 0) ∧ Now a b (ws.set (at_ + n).toNat x) w w' := by
  obtain ⟨h0, h1⟩ := hi
  have HH := Lib.hid h
  have HL := Lib.hid hl
  have HI := Lib.hid h1
  have P1 := Lib.hid (plB_yes (x := at_) h0 (by omega))
  have p1 : at_ ≤ 1048576 := by omega
  clear h hl h1
  go_enter Tryz.func115, Tryz.ntmps115
  go_wp2_with fail
  refine (isPlace_any _ _).mono ?_
  rintro e w1 ⟨he, rfl⟩
  obtain rfl : e = .returned (.bool true) := he.trans (ret_bool P1.out)
  go_wp2_with fail
  obtain ⟨c, hc⟩ := HH.out
  refine (store_at _ _ _ _ _ hc HL.out (at_ + n) x (by omega) (by have := HI.out; omega)).mono ?_
  rintro e w1 ⟨rfl, t⟩
  clear hc
  go_wp2
  go_ret
  exact ⟨rfl, t.now⟩

set_option maxHeartbeats 1000000 in
theorem oStore_no (a b : Nat) (ws : List Int) (w : World) (h : Has w a b ws) (hl : ws.length ≤ 1048576) (at_ n x : Int) (n0 : 0 ≤ n) (n1 : n ≤ 65) (hi : ¬ InW ws.length at_ n) :
    Calls Tryz.prog 115 #[arP a, .int .i64 at_, .int .i64 n, .int .u64 x] w fun e w' => e = .returned (.int .i64 2) ∧ w = w' := by
  unfold InW at hi
  have HI := Lib.hid hi
  have HH := Lib.hid h
  have HL := Lib.hid hl
  clear h hl hi
  cases P1 : plB at_
  · have P1 := Lib.hid P1
    go_enter Tryz.func115, Tryz.ntmps115
    go_wp2_with fail
    refine (isPlace_any _ _).mono ?_
    rintro e w1 ⟨he, rfl⟩
    obtain rfl : e = .returned (.bool false) := he.trans (ret_bool P1.out)
    go_wp2
    go_ret
    exact ⟨rfl, rfl⟩
  · have h0 : 0 ≤ at_ ∧ at_ ≤ 1048576 := by simpa [plB] using P1
    have P1 := Lib.hid P1
    obtain ⟨h0, h1⟩ := h0
    go_enter Tryz.func115, Tryz.ntmps115
    go_wp2_with fail
    refine (isPlace_any _ _).mono ?_
    rintro e w1 ⟨he, rfl⟩
    obtain rfl : e = .returned (.bool true) := he.trans (ret_bool P1.out)
    go_wp2_with fail
    obtain ⟨c, hc⟩ := HH.out
    refine (store_no _ _ _ _ (at_ + n) x _ hc HL.out (by omega) ((hasB_no ..).2 (by have := HI.out; omega))).mono ?_
    rintro e w1 ⟨rfl, rfl⟩
    clear hc
    go_wp2
    go_ret
    exact ⟨rfl, rfl⟩
end Go.Proofs.YthmhehehomieiaaGreat

/- Contracts of Way, SetWay, Field, SetField, Head, SetHead. -/
namespace Go.Proofs.YthmhehehomieiaaGreat
open Go.RowKit

section
variable (a b : Nat) (ws : List Int) (w : World) (h : Has w a b ws) (hl : ws.length ≤ 1048576)
include h hl

set_option maxHeartbeats 1000000 in
theorem way_yes (at_ x : Int) (hi : InW ws.length at_ 1) (hx : ws[(at_ + 1).toNat]? = some x) :
    Calls Tryz.prog 118 #[arP a, .int .i64 at_] w fun e w' => e = .returned (.tuple #[.int .i64 (wrap64 x), .int .i64 0]) ∧ Now a b ws w w' := by
  have L := Lib.hid (oLoad_yes a b ws w h hl at_ 1 x (by omega) (by omega) hi hx)
  clear h hl hi hx
  go_enter Tryz.func118, Tryz.ntmps118
  go_wp2_with fail
  refine L.out.mono ?_
  rintro e w1 ⟨rfl, t⟩
  go_wp2
  go_ret2
  exact ⟨rfl, t⟩

set_option maxHeartbeats 1000000 in
theorem way_no (at_ : Int) (hi : ¬ InW ws.length at_ 1) :
    Calls Tryz.prog 118 #[arP a, .int .i64 at_] w fun e w' => e = .returned (.tuple #[.int .i64 0, .int .i64 2]) ∧ w = w' := by
  have L := Lib.hid (oLoad_no a b ws w h hl at_ 1 (by omega) (by omega) hi)
  clear h hl hi
  go_enter Tryz.func118, Tryz.ntmps118
  go_wp2_with fail
  refine L.out.mono ?_
  rintro e w1 ⟨rfl, rfl⟩
  go_wp2
  go_ret2
  exact ⟨rfl, rfl⟩

set_option maxHeartbeats 1000000 in
theorem setWay_yes (at_ to_ : Int) (t0 : 0 ≤ to_) (t1 : to_ ≤ 1048576) (hi : InW ws.length at_ 1) :
    Calls Tryz.prog 124 #[arP a, .int .i64 at_, .int .i64 to_] w fun e w' => e = .returned (.int .i64 0) ∧ Now a b (ws.set (at_ + 1).toNat to_) w w' := by
  have L := Lib.hid (oStore_yes a b ws w h hl at_ 1 to_ (by omega) (by omega) hi)
  have P1 := Lib.hid (plB_yes t0 t1)
  clear h hl hi
  go_enter Tryz.func124, Tryz.ntmps124
  go_wp2_with fail
  refine (isPlace_any _ _).mono ?_
  rintro e w1 ⟨he, rfl⟩
  obtain rfl : e = .returned (.bool true) := he.trans (ret_bool P1.out)
  go_wp2_with fail
  refine L.out.mono ?_
  rintro e w1 ⟨rfl, t⟩
  go_wp2
  go_ret
  exact ⟨rfl, t⟩

set_option maxHeartbeats 1000000 in
theorem setWay_no (at_ to_ : Int) (t0 : 0 ≤ to_) (t1 : to_ ≤ 1048576) (hi : ¬ InW ws.length at_ 1) :
    Calls Tryz.prog 124 #[arP a, .int .i64 at_, .int .i64 to_] w fun e w' => e = .returned (.int .i64 2) ∧ w = w' := by
  have L := Lib.hid (oStore_no a b ws w h hl at_ 1 to_ (by omega) (by omega) hi)
  have P1 := Lib.hid (plB_yes t0 t1)
  clear h hl hi
  go_enter Tryz.func124, Tryz.ntmps124
  go_wp2_with fail
  refine (isPlace_any _ _).mono ?_
  rintro e w1 ⟨he, rfl⟩
  obtain rfl : e = .returned (.bool true) := he.trans (ret_bool P1.out)
  go_wp2_with fail
  refine L.out.mono ?_
  rintro e w1 ⟨rfl, rfl⟩
  go_wp2
  go_ret
  exact ⟨rfl, rfl⟩

set_option maxHeartbeats 1000000 in
theorem field_yes (at_ n x : Int) (n0 : 0 ≤ n) (n1 : n < 64) (hi : InW ws.length at_ (2 + n)) (hx : ws[(at_ + (2 + n)).toNat]? = some x) :
    Calls Tryz.prog 91 #[arP a, .int .i64 at_, .int .i64 n] w fun e w' => e = .returned (.tuple #[.int .u64 x, .int .i64 0]) ∧ Now a b ws w w' := by
  have L := Lib.hid (oLoad_yes a b ws w h hl at_ (2 + n) x (by omega) (by omega) hi hx)
  have P1 := Lib.hid (fdB_yes n0 n1)
  clear h hl hi hx
  go_enter Tryz.func91, Tryz.ntmps91
  go_wp2_with fail
  refine (isField_any _ _).mono ?_
  rintro e w1 ⟨he, rfl⟩
  obtain rfl : e = .returned (.bool true) := he.trans (ret_bool P1.out)
  go_wp2_with fail
  refine L.out.mono ?_
  rintro e w1 ⟨rfl, t⟩
  go_wp2
  go_ret2
  exact ⟨rfl, t⟩

set_option maxHeartbeats 1000000 in
theorem field_no (at_ n : Int) (hi : ¬ (0 ≤ n ∧ n < 64 ∧ InW ws.length at_ (2 + n))) :
    Calls Tryz.prog 91 #[arP a, .int .i64 at_, .int .i64 n] w fun e w' => e = .returned (.tuple #[.int .u64 0, .int .i64 2]) ∧ w = w' := by
  by_cases k : 0 ≤ n ∧ n < 64
  · obtain ⟨n0, n1⟩ := k
    have L := Lib.hid (oLoad_no a b ws w h hl at_ (2 + n) (by omega) (by omega) (fun e => hi ⟨n0, n1, e⟩))
    have P1 := Lib.hid (fdB_yes n0 n1)
    clear h hl hi
    go_enter Tryz.func91, Tryz.ntmps91
    go_wp2_with fail
    refine (isField_any _ _).mono ?_
    rintro e w1 ⟨he, rfl⟩
    obtain rfl : e = .returned (.bool true) := he.trans (ret_bool P1.out)
    go_wp2_with fail
    refine L.out.mono ?_
    rintro e w1 ⟨rfl, rfl⟩
    go_wp2
    go_ret2
    exact ⟨rfl, rfl⟩
  · have P1 := Lib.hid (fdB_no (x := n) (by omega))
    clear h hl hi k
    go_enter Tryz.func91, Tryz.ntmps91
    go_wp2_with fail
    refine (isField_any _ _).mono ?_
    rintro e w1 ⟨he, rfl⟩
    obtain rfl : e = .returned (.bool false) := he.trans (ret_bool P1.out)
    go_wp2
    go_ret2
    exact ⟨rfl, rfl⟩

set_option maxHeartbeats 1000000 in
theorem setField_yes (at_ n x : Int) (n0 : 0 ≤ n) (n1 : n < 64) (hi : InW ws.length at_ (2 + n)) :
    Calls Tryz.prog 94 #[arP a, .int .i64 at_, .int .i64 n, .int .u64 x] w fun e w' => e = .returned (.int .i64 0) ∧ Now a b (ws.set (at_ + (2 + n)).toNat x) w w' := by
  have L := Lib.hid (oStore_yes a b ws w h hl at_ (2 + n) x (by omega) (by omega) hi)
  have P1 := Lib.hid (fdB_yes n0 n1)
  clear h hl hi
  go_enter Tryz.func94, Tryz.ntmps94
  go_wp2_with fail
  refine (isField_any _ _).mono ?_
  rintro e w1 ⟨he, rfl⟩
  obtain rfl : e = .returned (.bool true) := he.trans (ret_bool P1.out)
  go_wp2_with fail
  refine L.out.mono ?_
  rintro e w1 ⟨rfl, t⟩
  go_wp2
  go_ret
  exact ⟨rfl, t⟩

set_option maxHeartbeats 1000000 in
theorem setField_no (at_ n x : Int) (hi : ¬ (0 ≤ n ∧ n < 64 ∧ InW ws.length at_ (2 + n))) :
    Calls Tryz.prog 94 #[arP a, .int .i64 at_, .int .i64 n, .int .u64 x] w fun e w' => e = .returned (.int .i64 2) ∧ w = w' := by
  by_cases k : 0 ≤ n ∧ n < 64
  · obtain ⟨n0, n1⟩ := k
    have L := Lib.hid (oStore_no a b ws w h hl at_ (2 + n) x (by omega) (by omega) (fun e => hi ⟨n0, n1, e⟩))
    have P1 := Lib.hid (fdB_yes n0 n1)
    clear h hl hi
    go_enter Tryz.func94, Tryz.ntmps94
    go_wp2_with fail
    refine (isField_any _ _).mono ?_
    rintro e w1 ⟨he, rfl⟩
    obtain rfl : e = .returned (.bool true) := he.trans (ret_bool P1.out)
    go_wp2_with fail
    refine L.out.mono ?_
    rintro e w1 ⟨rfl, rfl⟩
    go_wp2
    go_ret
    exact ⟨rfl, rfl⟩
  · have P1 := Lib.hid (fdB_no (x := n) (by omega))
    clear h hl hi k
    go_enter Tryz.func94, Tryz.ntmps94
    go_wp2_with fail
    refine (isField_any _ _).mono ?_
    rintro e w1 ⟨he, rfl⟩
    obtain rfl : e = .returned (.bool false) := he.trans (ret_bool P1.out)
    go_wp2
    go_ret
    exact ⟨rfl, rfl⟩

omit hl in
set_option maxHeartbeats 1000000 in
theorem setHead_arg (at_ : Int) (s p q y : Int) (g n o : Bool) (hg : goodB s p q y = false) :
    Calls Tryz.prog 76 #[arP a, .int .i64 at_, hdV s p q y g n o] w fun e w' => e = .returned (.int .i64 1) ∧ Now a b ws w w' := by
  have HH := Lib.hid h
  clear h
  go_enter Tryz.func76, Tryz.ntmps76
  go_wp2_with fail
  refine (pack_no _ _ _ _ _ _ _ _ hg).mono ?_
  rintro e w1 ⟨rfl, b1⟩
  go_wp2
  go_ret
  exact ⟨rfl, HH.out.now (below_alloc_trans _ b1)⟩

set_option maxHeartbeats 1000000 in
theorem setHead_no (at_ : Int) (s p q y : Int) (g n o : Bool) (hg : goodB s p q y = true) (hi : ¬ InW ws.length at_ 0) :
    Calls Tryz.prog 76 #[arP a, .int .i64 at_, hdV s p q y g n o] w fun e w' => e = .returned (.int .i64 2) ∧ Now a b ws w w' := by
  have HH := Lib.hid h
  have HI := Lib.hid hi
  have HL := Lib.hid hl
  have HG := Lib.hid hg
  clear h hl hi hg
  go_enter Tryz.func76, Tryz.ntmps76
  go_wp2_with fail
  refine (pack_yes _ _ _ _ _ _ _ _ HG.out).mono ?_
  rintro e w1 ⟨rfl, b1⟩
  have H1 := Lib.hid ((HH.out.alloc _).keep b1)
  go_wp2_with fail
  refine (oStore_no a b ws _ H1.out HL.out at_ 0 _ (by omega) (by omega) HI.out).mono ?_
  rintro e w2 ⟨rfl, rfl⟩
  go_wp2
  go_ret
  exact ⟨rfl, HH.out.now (below_alloc_trans _ b1)⟩

set_option maxHeartbeats 1000000 in
theorem setHead_yes (at_ : Int) (s p q y : Int) (g n o : Bool) (hg : goodB s p q y = true) (hi : InW ws.length at_ 0) :
    Calls Tryz.prog 76 #[arP a, .int .i64 at_, hdV s p q y g n o] w fun e w' => e = .returned (.int .i64 0) ∧ Now a b (ws.set at_.toNat (wordI s p q y g n o)) w w' := by
  have HH := Lib.hid h
  have HI := Lib.hid hi
  have HL := Lib.hid hl
  have HG := Lib.hid hg
  clear h hl hi hg
  go_enter Tryz.func76, Tryz.ntmps76
  go_wp2_with fail
  refine (pack_yes _ _ _ _ _ _ _ _ HG.out).mono ?_
  rintro e w1 ⟨rfl, b1⟩
  have H1 := Lib.hid ((HH.out.alloc _).keep b1)
  go_wp2_with fail
  refine (oStore_yes a b ws _ H1.out HL.out at_ 0 _ (by omega) (by omega) HI.out).mono ?_
  rintro e w2 ⟨rfl, t⟩
  rw [Int.add_zero] at t
  go_wp2
  go_ret
  exact ⟨rfl, t.pre (below_alloc_trans _ b1)⟩

theorem head_no (at_ : Int) (hi : ¬ InW ws.length at_ 0) :
    Calls Tryz.prog 54 #[arP a, .int .i64 at_] w fun e w' => e = .returned (.tuple #[noV, .int .i64 2]) ∧ Now a b ws w w' := by
  have HH := Lib.hid h
  have L := Lib.hid (oLoad_no a b ws _ (h.alloc (.cells #[.int .i64 0, .int .i64 0, .int .i64 0, .int .i64 0, .bool false, .bool false, .bool false] 93)) hl at_ 0 (by omega) (by omega) hi)
  clear h hl hi
  go_enter Tryz.func54, Tryz.ntmps54
  go_wp2_with fail
  refine L.out.mono ?_
  rintro e w1 ⟨rfl, rfl⟩
  go_wp2
  exact bodyPost_ret (v := .tuple #[noV, .int .i64 2]) (by simp [results, Tryz.results54, go_sem]) rfl ⟨rfl, HH.out.now ((Below.refl _ _).alloc (Nat.le_refl _) _)⟩
end
end Go.Proofs.YthmhehehomieiaaGreat

/- Contracts of Head, Make, Move. -/
namespace Go.Proofs.YthmhehehomieiaaGreat
open Go.RowKit

theorem Has.lt {w : World} {a b : Nat} {ws : List Int} (h : Has w a b ws) : a < w.heap.size ∧ b < w.heap.size := ⟨h.choose_spec.ltA, h.choose_spec.ltB⟩

theorem Now.set {w w' : World} {a b : Nat} {ws : List Int} (t : Now a b ws w w') {p : Addr} (hp : w.heap.size ≤ p.block) (hl : a < w.heap.size ∧ b < w.heap.size) (v : Value) : Now a b ws w (w'.setCell p v) := by
  obtain ⟨c, i1, i2⟩ := t.is
  exact ⟨⟨c, i1.far (by omega) v, i2.far (by omega) v⟩, t.frm.setCell (fun e => absurd hp (by omega)) v⟩

theorem Now.set7 {w w' : World} {a b : Nat} {ws : List Int} (t : Now a b ws w w') (r : Nat) (hp : w.heap.size ≤ r) (hl : a < w.heap.size ∧ b < w.heap.size) (v0 v1 v2 v3 v4 v5 v6 : Value) :
    Now a b ws w (((((((w'.setCell ⟨r, 0, none⟩ v0).setCell ⟨r, 1, none⟩ v1).setCell ⟨r, 2, none⟩ v2).setCell ⟨r, 3, none⟩ v3).setCell ⟨r, 4, none⟩ v4).setCell ⟨r, 5, none⟩ v5).setCell ⟨r, 6, none⟩ v6) :=
  ((((((t.set (p := ⟨r, 0, none⟩) hp hl v0).set (p := ⟨r, 1, none⟩) hp hl v1).set (p := ⟨r, 2, none⟩) hp hl v2).set (p := ⟨r, 3, none⟩) hp hl v3).set (p := ⟨r, 4, none⟩) hp hl v4).set (p := ⟨r, 5, none⟩) hp hl v5).set (p := ⟨r, 6, none⟩) hp hl v6

/-- A block that is none of the arena's. -/
theorem Now.blk {w w' : World} {a b r : Nat} {ws : List Int} {cs : Array Value} {t : TypeId} (n : Now a b ws w w') (k : Blk w r cs t) (ha : r ≠ a) (hb : r ≠ b) : Blk w' r cs t :=
  k.frm n.frm (by omega)

section
variable (a b : Nat) (ws : List Int) (w : World) (h : Has w a b ws) (hl : ws.length ≤ 1048576)
include h hl

set_option maxHeartbeats 1000000 in
theorem head_yes (at_ x : Int) (hi : InW ws.length at_ 0) (hx : ws[at_.toNat]? = some x) (x0 : 0 ≤ x) (x1 : x < 18446744073709551616) (hh : isHd x = true) :
    Calls Tryz.prog 54 #[arP a, .int .i64 at_] w fun e w' => e = .returned (.tuple #[unV x, .int .i64 0]) ∧ Now a b ws w w' := by
  have hlt := Lib.hid h.lt
  have L := Lib.hid (oLoad_yes a b ws _ (h.alloc (.cells #[.int .i64 0, .int .i64 0, .int .i64 0, .int .i64 0, .bool false, .bool false, .bool false] 93)) hl at_ 0 x (by omega) (by omega) hi (by rw [Int.add_zero]; exact hx))
  have HH := Lib.hid hh
  clear h hl hi hx hh
  go_enter Tryz.func54, Tryz.ntmps54
  go_wp2_with fail
  refine L.out.mono ?_
  rintro e w1 ⟨rfl, t1⟩
  have k1 := Lib.hid (t1.blk (Blk.new w _ _) (by have := hlt.out; omega) (by have := hlt.out; omega))
  have T1 := Lib.hid t1.pre_alloc
  clear t1
  go_wp2_with fail
  refine (unpack_yes x x0 x1 _ HH.out).mono ?_
  rintro e w2 ⟨rfl, b2⟩
  have T2 := Lib.hid (T1.out.post b2)
  have k2 := k1.out.keep b2
  clear b2 k1 T1
  obtain ⟨c0, c1, c2, c3, c4, c5, c6, fz⟩ := (k2.alloc (.cells #[.int .i64 (sS x), .int .i64 (sP x), .int .i64 (sA x), .int .i64 (sY x), .bool (sG x), .bool (sN x), .bool (sO x)] 93)).seven
  go_wp2
  exact bodyPost_ret (v := .tuple #[unV x, .int .i64 0]) (by simp [results, Tryz.results54, go_sem, c0, c1, c2, c3, c4, c5, c6]) rfl ⟨rfl, (T2.out.post ((Below.refl _ _).alloc (Nat.le_refl _) _)).set7 _ (Nat.le_refl _) hlt.out _ _ _ _ _ _ _⟩

set_option maxHeartbeats 1000000 in
theorem head_bad (at_ x : Int) (hi : InW ws.length at_ 0) (hx : ws[at_.toNat]? = some x) (x0 : 0 ≤ x) (x1 : x < 18446744073709551616) (hh : isHd x = false) :
    Calls Tryz.prog 54 #[arP a, .int .i64 at_] w fun e w' => e = .returned (.tuple #[noV, .int .i64 1]) ∧ Now a b ws w w' := by
  have hlt := Lib.hid h.lt
  have L := Lib.hid (oLoad_yes a b ws _ (h.alloc (.cells #[.int .i64 0, .int .i64 0, .int .i64 0, .int .i64 0, .bool false, .bool false, .bool false] 93)) hl at_ 0 x (by omega) (by omega) hi (by rw [Int.add_zero]; exact hx))
  have HH := Lib.hid hh
  clear h hl hi hx hh
  go_enter Tryz.func54, Tryz.ntmps54
  go_wp2_with fail
  refine L.out.mono ?_
  rintro e w1 ⟨rfl, t1⟩
  have k1 := Lib.hid (t1.blk (Blk.new w _ _) (by have := hlt.out; omega) (by have := hlt.out; omega))
  have T1 := Lib.hid t1.pre_alloc
  clear t1
  go_wp2_with fail
  refine (unpack_no x x0 x1 _ HH.out).mono ?_
  rintro e w2 ⟨rfl, b2⟩
  have T2 := Lib.hid (T1.out.post b2)
  have k2 := k1.out.keep b2
  clear b2 k1 T1
  obtain ⟨c0, c1, c2, c3, c4, c5, c6, fz⟩ := (k2.alloc (.cells #[.int .i64 0, .int .i64 0, .int .i64 0, .int .i64 0, .bool false, .bool false, .bool false] 93)).seven
  go_wp2
  exact bodyPost_ret (v := .tuple #[noV, .int .i64 1]) (by simp [results, Tryz.results54, go_sem, c0, c1, c2, c3, c4, c5, c6]) rfl ⟨rfl, (T2.out.post ((Below.refl _ _).alloc (Nat.le_refl _) _)).set7 _ (Nat.le_refl _) hlt.out _ _ _ _ _ _ _⟩

set_option maxHeartbeats 1000000 in
theorem begin_yes (at_ x : Int) (hi : InW ws.length at_ 1) :
    Calls Tryz.prog 123 #[arP a, .int .i64 at_, .int .u64 x] w fun e w' => e = .returned (.int .i64 0) ∧ Now a b ((ws.set at_.toNat x).set (at_ + 1).toNat at_) w w' := by
  obtain ⟨h0, h1⟩ := hi
  obtain ⟨c, hc⟩ := h
  have L := Lib.hid (store_at a b ws c w hc hl at_ x h0 (by omega))
  have HL := Lib.hid hl
  have HI := Lib.hid h1
  have p1 := Lib.hid (show at_ ≤ 1048576 by omega)
  clear hc hl h1
  go_enter Tryz.func123, Tryz.ntmps123
  go_wp2_with fail
  refine L.out.mono ?_
  rintro e w1 ⟨rfl, t⟩
  have T := Lib.hid t.now
  clear t
  go_wp2_with fail
  refine (setWay_yes a b _ _ T.out.is (by rw [List.length_set]; exact HL.out) at_ at_ h0 p1.out ⟨h0, by rw [List.length_set]; exact HI.out⟩).mono ?_
  rintro e w2 ⟨rfl, t2⟩
  have T2 := Lib.hid (T.out.trans t2)
  clear t2
  go_wp2
  go_ret
  exact ⟨rfl, T2.out⟩

omit hl in
set_option maxHeartbeats 1000000 in
theorem make_arg (at_ : Int) (s p q y : Int) (g n o : Bool) (hg : goodB s p q y = false) :
    Calls Tryz.prog 87 #[arP a, .int .i64 at_, hdV s p q y g n o] w fun e w' => e = .returned (.int .i64 1) ∧ Now a b ws w w' := by
  have HH := Lib.hid h
  clear h
  go_enter Tryz.func87, Tryz.ntmps87
  go_wp2_with fail
  refine (pack_no _ _ _ _ _ _ _ _ hg).mono ?_
  rintro e w1 ⟨rfl, b1⟩
  go_wp2
  go_ret
  exact ⟨rfl, HH.out.now (below_alloc_trans _ b1)⟩

/-- The words of an object of that size, at a place, are there. -/
def Room (len : Nat) (at_ s : Int) : Prop := 0 ≤ at_ ∧ at_ + (s + 2) ≤ len

set_option maxHeartbeats 1000000 in
theorem make_no (at_ : Int) (s p q y : Int) (g n o : Bool) (hg : goodB s p q y = true) (hi : ¬ Room ws.length at_ s) :
    Calls Tryz.prog 87 #[arP a, .int .i64 at_, hdV s p q y g n o] w fun e w' => e = .returned (.int .i64 2) ∧ Now a b ws w w' := by
  unfold Room at hi
  have HH := Lib.hid h
  have HI := Lib.hid hi
  have HL := Lib.hid hl
  have HG := Lib.hid hg
  have hs := Lib.hid (show 0 ≤ s ∧ s ≤ 64 by have := (goodB_iff ..).1 hg; omega)
  clear h hl hi hg
  cases P1 : plB at_
  · have P1 := Lib.hid P1
    go_enter Tryz.func87, Tryz.ntmps87
    go_wp2_with fail
    refine (pack_yes _ _ _ _ _ _ _ _ HG.out).mono ?_
    rintro e w1 ⟨rfl, b1⟩
    go_wp2_with fail
    refine (isPlace_any _ _).mono ?_
    rintro e w2 ⟨he, rfl⟩
    obtain rfl : e = .returned (.bool false) := he.trans (ret_bool P1.out)
    go_wp2
    go_ret
    exact ⟨rfl, HH.out.now (below_alloc_trans _ b1)⟩
  · have hp := Lib.hid (show 0 ≤ at_ ∧ at_ ≤ 1048576 by simpa [plB] using P1)
    have P1 := Lib.hid P1
    go_enter Tryz.func87, Tryz.ntmps87
    go_wp2_with fail
    refine (pack_yes _ _ _ _ _ _ _ _ HG.out).mono ?_
    rintro e w1 ⟨rfl, b1⟩
    have k1 := (Blk.new w _ _).keep b1
    obtain ⟨c0, c1, c2, c3, c4, c5, c6, fz⟩ := k1.seven
    go_wp2_with fail
    refine (isPlace_any _ _).mono ?_
    rintro e w2 ⟨he, rfl⟩
    obtain rfl : e = .returned (.bool true) := he.trans (ret_bool P1.out)
    go_wp2_with fail
    refine (oWords_any _ _ _ _ _ _ _ _ hs.out.1 hs.out.2).mono ?_
    rintro e w2 ⟨rfl, b2⟩
    clear c0 c1 c2 c3 c4 c5 c6 fz k1
    have B := Lib.hid (below_trans (below_alloc_trans _ b1) b2)
    clear b1 b2
    obtain ⟨c, hc⟩ := HH.out.keep B.out
    have HC := Lib.hid hc
    clear hc
    go_wp2_with fail
    refine (zero_no a b ws c at_ (s + 2) _ HC.out HL.out (by have := hp.out; omega) ((hasB_no ..).2 (by have := HI.out; omega))).mono ?_
    rintro e w3 ⟨rfl, rfl⟩
    go_wp2
    go_ret
    exact ⟨rfl, HH.out.now B.out⟩

/-- What Make leaves. -/
def madeW (ws : List Int) (at_ s x : Int) : List Int := ((splice ws at_.toNat (List.replicate (s + 2).toNat 0)).set at_.toNat x).set (at_ + 1).toNat at_

omit h hl in
theorem splice_len {at_ s : Int} (hs : 0 ≤ s) (hi : Room ws.length at_ s) : (splice ws at_.toNat (List.replicate (s + 2).toNat (0 : Int))).length = ws.length := by
  obtain ⟨h0, h1⟩ := hi
  exact length_splice _ _ _ (by rw [List.length_replicate]; omega)

set_option maxHeartbeats 1000000 in
theorem make_yes (at_ : Int) (s p q y : Int) (g n o : Bool) (hg : goodB s p q y = true) (hi : Room ws.length at_ s) :
    Calls Tryz.prog 87 #[arP a, .int .i64 at_, hdV s p q y g n o] w fun e w' => e = .returned (.int .i64 0) ∧ Now a b (madeW ws at_ s (wordI s p q y g n o)) w w' := by
  have hs := Lib.hid (show 0 ≤ s ∧ s ≤ 64 by have := (goodB_iff ..).1 hg; omega)
  have SL := Lib.hid (splice_len ws hs.out.1 hi)
  obtain ⟨h0, h1⟩ := hi
  have HH := Lib.hid h
  have HI := Lib.hid h1
  have HL := Lib.hid hl
  have HG := Lib.hid hg
  have P1 := Lib.hid (plB_yes (x := at_) h0 (by have := hs.out; omega))
  clear h hl h1 hg
  go_enter Tryz.func87, Tryz.ntmps87
  go_wp2_with fail
  refine (pack_yes _ _ _ _ _ _ _ _ HG.out).mono ?_
  rintro e w1 ⟨rfl, b1⟩
  have k1 := (Blk.new w _ _).keep b1
  obtain ⟨c0, c1, c2, c3, c4, c5, c6, fz⟩ := k1.seven
  go_wp2_with fail
  refine (isPlace_any _ _).mono ?_
  rintro e w2 ⟨he, rfl⟩
  obtain rfl : e = .returned (.bool true) := he.trans (ret_bool P1.out)
  go_wp2_with fail
  refine (oWords_any _ _ _ _ _ _ _ _ hs.out.1 hs.out.2).mono ?_
  rintro e w2 ⟨rfl, b2⟩
  clear c0 c1 c2 c3 c4 c5 c6 fz k1
  have B := Lib.hid (below_trans (below_alloc_trans _ b1) b2)
  clear b1 b2
  obtain ⟨c, hc⟩ := HH.out.keep B.out
  have HC := Lib.hid hc
  clear hc
  go_wp2_with fail
  refine (zero_at a b ws c _ HC.out HL.out at_ (s + 2) h0 (by have := hs.out; omega) HI.out).mono ?_
  rintro e w3 ⟨rfl, t3⟩
  have T3 := Lib.hid (t3.now.pre B.out)
  clear t3 HC
  go_wp2_with fail
  refine (begin_yes a b _ _ T3.out.is (by rw [SL.out]; exact HL.out) at_ _ ⟨h0, by rw [SL.out]; have := HI.out; have := hs.out; omega⟩).mono ?_
  rintro e w4 ⟨rfl, t4⟩
  have T4 := Lib.hid (T3.out.trans t4)
  clear t4
  go_wp2
  go_ret
  exact ⟨rfl, T4.out⟩

omit hl in
set_option maxHeartbeats 1000000 in
theorem move_arg (fr to_ : Int) (s p q y : Int) (g n o : Bool) (hg : goodB s p q y = false) :
    Calls Tryz.prog 84 #[arP a, .int .i64 fr, .int .i64 to_, hdV s p q y g n o] w fun e w' => e = .returned (.int .i64 1) ∧ Now a b ws w w' := by
  have HH := Lib.hid h
  clear h
  go_enter Tryz.func84, Tryz.ntmps84
  go_wp2_with fail
  refine (pack_no _ _ _ _ _ _ _ _ hg).mono ?_
  rintro e w1 ⟨rfl, b1⟩
  go_wp2
  go_ret
  exact ⟨rfl, HH.out.now (below_alloc_trans _ b1)⟩

set_option maxHeartbeats 1000000 in
theorem move_no (fr to_ : Int) (s p q y : Int) (g n o : Bool) (hg : goodB s p q y = true) (hi : ¬ (Room ws.length fr s ∧ Room ws.length to_ s)) :
    Calls Tryz.prog 84 #[arP a, .int .i64 fr, .int .i64 to_, hdV s p q y g n o] w fun e w' => e = .returned (.int .i64 2) ∧ Now a b ws w w' := by
  unfold Room at hi
  have HH := Lib.hid h
  have HI := Lib.hid hi
  have HL := Lib.hid hl
  have HG := Lib.hid hg
  have hs := Lib.hid (show 0 ≤ s ∧ s ≤ 64 by have := (goodB_iff ..).1 hg; omega)
  clear h hl hi hg
  cases P1 : plB fr
  · have P1 := Lib.hid P1
    go_enter Tryz.func84, Tryz.ntmps84
    go_wp2_with fail
    refine (pack_yes _ _ _ _ _ _ _ _ HG.out).mono ?_
    rintro e w1 ⟨rfl, b1⟩
    go_wp2_with fail
    refine (isPlace_any _ _).mono ?_
    rintro e w2 ⟨he, rfl⟩
    obtain rfl : e = .returned (.bool false) := he.trans (ret_bool P1.out)
    go_wp2
    go_ret
    exact ⟨rfl, HH.out.now (below_alloc_trans _ b1)⟩
  · have hp := Lib.hid (show 0 ≤ fr ∧ fr ≤ 1048576 by simpa [plB] using P1)
    have P1 := Lib.hid P1
    cases P2 : plB to_
    · have P2 := Lib.hid P2
      go_enter Tryz.func84, Tryz.ntmps84
      go_wp2_with fail
      refine (pack_yes _ _ _ _ _ _ _ _ HG.out).mono ?_
      rintro e w1 ⟨rfl, b1⟩
      go_wp2_with fail
      refine (isPlace_any _ _).mono ?_
      rintro e w2 ⟨he, rfl⟩
      obtain rfl : e = .returned (.bool true) := he.trans (ret_bool P1.out)
      go_wp2_with fail
      refine (isPlace_any _ _).mono ?_
      rintro e w2 ⟨he, rfl⟩
      obtain rfl : e = .returned (.bool false) := he.trans (ret_bool P2.out)
      go_wp2
      go_ret
      exact ⟨rfl, HH.out.now (below_alloc_trans _ b1)⟩
    · have hq := Lib.hid (show 0 ≤ to_ ∧ to_ ≤ 1048576 by simpa [plB] using P2)
      have P2 := Lib.hid P2
      go_enter Tryz.func84, Tryz.ntmps84
      go_wp2_with fail
      refine (pack_yes _ _ _ _ _ _ _ _ HG.out).mono ?_
      rintro e w1 ⟨rfl, b1⟩
      have k1 := (Blk.new w _ _).keep b1
      obtain ⟨c0, c1, c2, c3, c4, c5, c6, fz⟩ := k1.seven
      go_wp2_with fail
      refine (isPlace_any _ _).mono ?_
      rintro e w2 ⟨he, rfl⟩
      obtain rfl : e = .returned (.bool true) := he.trans (ret_bool P1.out)
      go_wp2_with fail
      refine (isPlace_any _ _).mono ?_
      rintro e w2 ⟨he, rfl⟩
      obtain rfl : e = .returned (.bool true) := he.trans (ret_bool P2.out)
      go_wp2_with fail
      refine (oWords_any _ _ _ _ _ _ _ _ hs.out.1 hs.out.2).mono ?_
      rintro e w2 ⟨rfl, b2⟩
      clear c0 c1 c2 c3 c4 c5 c6 fz k1
      have B := Lib.hid (below_trans (below_alloc_trans _ b1) b2)
      clear b1 b2
      obtain ⟨c, hc⟩ := HH.out.keep B.out
      have HC := Lib.hid hc
      clear hc
      go_wp2_with fail
      refine (copy_no a b ws c fr to_ (s + 2) _ HC.out HL.out (by have := hp.out; omega) (by have := hq.out; omega) (by rw [hasB_no, hasB_no]; have := HI.out; omega)).mono ?_
      rintro e w3 ⟨rfl, rfl⟩
      go_wp2
      go_ret
      exact ⟨rfl, HH.out.now B.out⟩

/-- What Move leaves. -/
def movedW (ws : List Int) (fr to_ s x : Int) : List Int := (((splice ws to_.toNat ((ws.drop fr.toNat).take (s + 2).toNat)).set to_.toNat x).set (to_ + 1).toNat to_).set (fr + 1).toNat to_

omit h hl in
theorem splice_len2 {fr to_ s : Int} (hs : 0 ≤ s) (hi : Room ws.length fr s) (hj : Room ws.length to_ s) : (splice ws to_.toNat ((ws.drop fr.toNat).take (s + 2).toNat)).length = ws.length := by
  obtain ⟨h0, h1⟩ := hi
  obtain ⟨j0, j1⟩ := hj
  exact length_splice _ _ _ (by rw [List.length_take, List.length_drop]; omega)

set_option maxHeartbeats 1000000 in
theorem move_yes (fr to_ : Int) (s p q y : Int) (g n o : Bool) (hg : goodB s p q y = true) (hi : Room ws.length fr s) (hj : Room ws.length to_ s) :
    Calls Tryz.prog 84 #[arP a, .int .i64 fr, .int .i64 to_, hdV s p q y g n o] w fun e w' => e = .returned (.int .i64 0) ∧ Now a b (movedW ws fr to_ s (wordI s p q y g n o)) w w' := by
  have hs := Lib.hid (show 0 ≤ s ∧ s ≤ 64 by have := (goodB_iff ..).1 hg; omega)
  have SL := Lib.hid (splice_len2 ws hs.out.1 hi hj)
  obtain ⟨h0, h1⟩ := hi
  obtain ⟨j0, j1⟩ := hj
  have HH := Lib.hid h
  have HI := Lib.hid h1
  have HJ := Lib.hid j1
  have HL := Lib.hid hl
  have HG := Lib.hid hg
  have P1 := Lib.hid (plB_yes (x := fr) h0 (by have := hs.out; omega))
  have P2 := Lib.hid (plB_yes (x := to_) j0 (by have := hs.out; omega))
  clear h hl h1 hg j1
  go_enter Tryz.func84, Tryz.ntmps84
  go_wp2_with fail
  refine (pack_yes _ _ _ _ _ _ _ _ HG.out).mono ?_
  rintro e w1 ⟨rfl, b1⟩
  have k1 := (Blk.new w _ _).keep b1
  obtain ⟨c0, c1, c2, c3, c4, c5, c6, fz⟩ := k1.seven
  go_wp2_with fail
  refine (isPlace_any _ _).mono ?_
  rintro e w2 ⟨he, rfl⟩
  obtain rfl : e = .returned (.bool true) := he.trans (ret_bool P1.out)
  go_wp2_with fail
  refine (isPlace_any _ _).mono ?_
  rintro e w2 ⟨he, rfl⟩
  obtain rfl : e = .returned (.bool true) := he.trans (ret_bool P2.out)
  go_wp2_with fail
  refine (oWords_any _ _ _ _ _ _ _ _ hs.out.1 hs.out.2).mono ?_
  rintro e w2 ⟨rfl, b2⟩
  clear c0 c1 c2 c3 c4 c5 c6 fz k1
  have B := Lib.hid (below_trans (below_alloc_trans _ b1) b2)
  clear b1 b2
  obtain ⟨c, hc⟩ := HH.out.keep B.out
  have HC := Lib.hid hc
  clear hc
  go_wp2_with fail
  refine (copy_at a b ws c _ HC.out HL.out fr to_ (s + 2) h0 j0 (by have := hs.out; omega) HI.out HJ.out).mono ?_
  rintro e w3 ⟨rfl, t3⟩
  have T3 := Lib.hid (t3.now.pre B.out)
  clear t3 HC
  go_wp2_with fail
  refine (begin_yes a b _ _ T3.out.is (by rw [SL.out]; exact HL.out) to_ _ ⟨j0, by rw [SL.out]; have := HJ.out; have := hs.out; omega⟩).mono ?_
  rintro e w4 ⟨rfl, t4⟩
  have T4 := Lib.hid (T3.out.trans t4)
  clear t4
  go_wp2_with fail
  refine (setWay_yes a b _ _ T4.out.is (by rw [List.length_set, List.length_set, SL.out]; exact HL.out) fr to_ j0 (by have := HJ.out; have := HL.out; have := hs.out; omega) ⟨h0, by rw [List.length_set, List.length_set, SL.out]; have := HI.out; have := hs.out; omega⟩).mono ?_
  rintro e w5 ⟨rfl, t5⟩
  have T5 := Lib.hid (T4.out.trans t5)
  clear t5
  go_wp2
  go_ret
  exact ⟨rfl, T5.out⟩
end
end Go.Proofs.YthmhehehomieiaaGreat

/- The nearest number within bounds; of no program's own functions. -/
namespace Go.Proofs.YthmhehehomieiaaGreat

def cutI (n l m : Int) : Int := if n < l then l else if m < n then m else n

theorem cutI_in {n l m : Int} (h : l ≤ m) : l ≤ cutI n l m ∧ cutI n l m ≤ m := by unfold cutI; split <;> (try split) <;> omega
end Go.Proofs.YthmhehehomieiaaGreat

/- The nearest number within bounds: the document's Cut. -/
namespace Go.Proofs.YthmhehehomieiaaGreat
open Go.RowKit

end Go.Proofs.YthmhehehomieiaaGreat

/- Two halves in memory; contracts of the program's nearest, New, filled, other, has. -/
namespace Go.Proofs.YthmhehehomieiaaGreat
open Go.RowKit

/-- The cells of two halves of W words from F on: n says which is filled, u is used of that one, v of the other one. -/
def bpL (W F : Int) (n : Bool) (u v : Int) : Array Value :=
  match n with
  | false => #[.int .i64 W, .int .i64 F, .int .i64 u, .int .i64 (F + W), .int .i64 v, .int .i64 0]
  | true => #[.int .i64 W, .int .i64 F, .int .i64 v, .int .i64 (F + W), .int .i64 u, .int .i64 1]

structure IsBp (w : World) (b : Nat) (W F : Int) (n : Bool) (u v : Int) : Prop where
  blk : Blk w b (bpL W F n u v) 157
  w0 : 0 ≤ W
  w1 : W ≤ 1048576
  f0 : 0 ≤ F
  f1 : F ≤ 1048576
  u0 : 0 ≤ u
  u1 : u ≤ W
  v0 : 0 ≤ v
  v1 : v ≤ W

abbrev bpP (b : Nat) : Value := .pointer (some ⟨b, 0, none⟩)

/-- Where a half begins. -/
def hAt (W F : Int) (n : Bool) : Int := if n then F + W else F

section
variable {w w' : World} {b : Nat} {W F u v : Int} {n : Bool}
theorem IsBp.lt (h : IsBp w b W F n u v) : b < w.heap.size := h.blk.lt
theorem IsBp.keep (h : IsBp w b W F n u v) (f : Below w.heap.size w w') : IsBp w' b W F n u v := { h with blk := h.blk.keep f }
theorem IsBp.frm {S : Nat → Prop} (h : IsBp w b W F n u v) (f : Frm S w w') (hb : ¬ S b) : IsBp w' b W F n u v := { h with blk := h.blk.frm f hb }
theorem IsBp.alloc (h : IsBp w b W F n u v) (o : Obj) : IsBp (w.alloc o) b W F n u v := { h with blk := h.blk.alloc o }
theorem Blk.six {t : TypeId} {v0 v1 v2 v3 v4 v5 : Value} (h : Blk w b #[v0, v1, v2, v3, v4, v5] t) :
    w.cell? ⟨b, 0, none⟩ = some v0 ∧ w.cell? ⟨b, 1, none⟩ = some v1 ∧ w.cell? ⟨b, 2, none⟩ = some v2 ∧ w.cell? ⟨b, 3, none⟩ = some v3 ∧ w.cell? ⟨b, 4, none⟩ = some v4 ∧ w.cell? ⟨b, 5, none⟩ = some v5 ∧
    (∀ i, w.frozen? ⟨b, i, none⟩ = false) := ⟨h.cell 0, h.cell 1, h.cell 2, h.cell 3, h.cell 4, h.cell 5, h.frozen⟩
end

set_option maxHeartbeats 1000000 in
theorem bnearest_any (n : Int) (w : World) :
    Calls Tryz.prog 107 #[.int .i64 n] w fun e w' => e = .returned (.int .i64 (cutI n 0 1048576)) ∧ w = w' := by
  by_cases h0 : n < 0
  · have E := Lib.hid (show cutI n 0 1048576 = 0 from if_pos h0)
    go_enter Tryz.func107, Tryz.ntmps107
    go_wp2
    go_ret
    refine ⟨?_, rfl⟩
    rw [E.out]
    congr 2
    repeat' split
    all_goals omega
  · by_cases h1 : 1048576 < n
    · have E := Lib.hid (show cutI n 0 1048576 = 1048576 from by rw [cutI, if_neg h0, if_pos h1])
      go_enter Tryz.func107, Tryz.ntmps107
      go_wp2
      go_ret
      refine ⟨?_, rfl⟩
      rw [E.out]
      congr 2
      repeat' split
      all_goals omega
    · have E := Lib.hid (show cutI n 0 1048576 = n from by rw [cutI, if_neg h0, if_neg h1])
      go_enter Tryz.func107, Tryz.ntmps107
      go_wp2
      go_ret
      refine ⟨?_, rfl⟩
      rw [E.out]
      congr 2
      repeat' split
      all_goals omega

set_option maxHeartbeats 1000000 in
theorem bNew_any (f n : Int) (w : World) :
    Calls Tryz.prog 62 #[.int .i64 f, .int .i64 n] w fun e w' => e = .returned (bpP w.heap.size) ∧ IsBp w' w.heap.size (cutI n 0 1048576) (cutI f 0 1048576) false 0 0 ∧ Below w.heap.size w w' := by
  have hF := bnearest_any f w
  have hN := bnearest_any n w
  have iF := cutI_in (n := f) (l := 0) (m := 1048576) (by omega)
  have iN := cutI_in (n := n) (l := 0) (m := 1048576) (by omega)
  obtain ⟨F, eF⟩ : ∃ F, cutI f 0 1048576 = F := ⟨_, rfl⟩
  obtain ⟨W, eW⟩ : ∃ W, cutI n 0 1048576 = W := ⟨_, rfl⟩
  rw [eF] at hF iF ⊢
  rw [eW] at hN iN ⊢
  have HF := Lib.hid hF
  have HN := Lib.hid hN
  obtain ⟨f0, f1⟩ := iF
  obtain ⟨n0, n1⟩ := iN
  clear hF hN eF eW
  go_enter Tryz.func62, Tryz.ntmps62
  go_wp2_with fail
  refine HF.out.mono ?_
  rintro e w1 ⟨rfl, rfl⟩
  go_wp2_with fail
  refine HN.out.mono ?_
  rintro e w1 ⟨rfl, rfl⟩
  go_wp2
  go_ret
  exact ⟨rfl, ⟨Blk.new w _ _, n0, n1, f0, f1, Int.le_refl _, n0, Int.le_refl _, n0⟩, (Below.refl _ _).alloc (Nat.le_refl _) _⟩

set_option maxHeartbeats 1000000 in
theorem filled_nil (w : World) :
    Calls Tryz.prog 111 #[.pointer none] w fun e w' => e = .returned (.agg #[.int .i64 0, .int .i64 0]) ∧ Below w.heap.size w w' := by
  go_enter Tryz.func111, Tryz.ntmps111
  go_wp2
  exact bodyPost_ret (v := Value.agg #[.int .i64 0, .int .i64 0]) (by simp [results, Tryz.results111, go_sem]) rfl ⟨rfl, (Below.refl _ _).alloc (Nat.le_refl _) _⟩

set_option maxHeartbeats 1000000 in
theorem other_nil (w : World) :
    Calls Tryz.prog 99 #[.pointer none] w fun e w' => e = .returned (.agg #[.int .i64 0, .int .i64 0]) ∧ Below w.heap.size w w' := by
  go_enter Tryz.func99, Tryz.ntmps99
  go_wp2
  exact bodyPost_ret (v := Value.agg #[.int .i64 0, .int .i64 0]) (by simp [results, Tryz.results99, go_sem]) rfl ⟨rfl, (Below.refl _ _).alloc (Nat.le_refl _) _⟩

set_option maxHeartbeats 1000000 in
theorem filled_any (b : Nat) (W F : Int) (n : Bool) (u v : Int) (w : World) (h : IsBp w b W F n u v) :
    Calls Tryz.prog 111 #[bpP b] w fun e w' => e = .returned (.agg #[.int .i64 (hAt W F n), .int .i64 u]) ∧ Below w.heap.size w w' := by
  have hl := h.lt
  have hb := h.blk
  clear h
  cases n
  · obtain ⟨c0, c1, c2, c3, c4, c5, cf⟩ := hb.six
    clear hb c0
    go_enter Tryz.func111, Tryz.ntmps111
    go_wp2_with fail
    go_region
    go_wp2
    exact bodyPost_ret (v := Value.agg #[.int .i64 F, .int .i64 u]) (by simp [results, Tryz.results111, go_sem]) rfl ⟨rfl, ((Below.refl _ w).alloc (Nat.le_refl _) _).drew⟩
  · obtain ⟨c0, c1, c2, c3, c4, c5, cf⟩ := hb.six
    clear hb c0
    go_enter Tryz.func111, Tryz.ntmps111
    go_wp2_with fail
    go_region
    go_wp2
    exact bodyPost_ret (v := Value.agg #[.int .i64 (F + W), .int .i64 u]) (by simp [results, Tryz.results111, go_sem]) rfl ⟨rfl, ((Below.refl _ w).alloc (Nat.le_refl _) _).drew⟩

set_option maxHeartbeats 1000000 in
theorem other_any (b : Nat) (W F : Int) (n : Bool) (u v : Int) (w : World) (h : IsBp w b W F n u v) :
    Calls Tryz.prog 99 #[bpP b] w fun e w' => e = .returned (.agg #[.int .i64 (hAt W F (!n)), .int .i64 v]) ∧ Below w.heap.size w w' := by
  have hl := h.lt
  have hb := h.blk
  clear h
  cases n
  · obtain ⟨c0, c1, c2, c3, c4, c5, cf⟩ := hb.six
    clear hb c0
    go_enter Tryz.func99, Tryz.ntmps99
    go_wp2_with fail
    go_region
    go_wp2
    exact bodyPost_ret (v := Value.agg #[.int .i64 (F + W), .int .i64 v]) (by simp [results, Tryz.results99, go_sem]) rfl ⟨rfl, ((Below.refl _ w).alloc (Nat.le_refl _) _).drew⟩
  · obtain ⟨c0, c1, c2, c3, c4, c5, cf⟩ := hb.six
    clear hb c0
    go_enter Tryz.func99, Tryz.ntmps99
    go_wp2_with fail
    go_region
    go_wp2
    exact bodyPost_ret (v := Value.agg #[.int .i64 F, .int .i64 v]) (by simp [results, Tryz.results99, go_sem]) rfl ⟨rfl, ((Below.refl _ w).alloc (Nat.le_refl _) _).drew⟩

/-- Is a place among the first u from a on? -/
def inH (a u x : Int) : Bool := decide (a ≤ x) && decide (x < a + u)

set_option maxHeartbeats 1000000 in
theorem bHas_any (a u x : Int) (w : World) (a0 : 0 ≤ a) (a1 : a ≤ 2097152) (u0 : 0 ≤ u) (u1 : u ≤ 1048576) :
    Calls Tryz.prog 106 #[.agg #[.int .i64 a, .int .i64 u], .int .i64 x] w fun e w' => e = .returned (.bool (inH a u x)) ∧ Below w.heap.size w w' := by
  by_cases h : a ≤ x
  · have E := Lib.hid (show inH a u x = decide (x < a + u) from by rw [inH, decide_eq_true h, Bool.true_and])
    go_enter Tryz.func106, Tryz.ntmps106
    go_wp2
    go_ret
    exact ⟨by rw [E.out]; rfl, (Below.refl _ _).alloc (Nat.le_refl _) _⟩
  · have E := Lib.hid (show inH a u x = false from by rw [inH, decide_eq_false h, Bool.false_and])
    go_enter Tryz.func106, Tryz.ntmps106
    go_wp2
    go_ret
    exact ⟨by rw [E.out]; rfl, (Below.refl _ _).alloc (Nat.le_refl _) _⟩

theorem hAt_in {W F : Int} (n : Bool) (w0 : 0 ≤ W) (w1 : W ≤ 1048576) (f0 : 0 ≤ F) (f1 : F ≤ 1048576) : 0 ≤ hAt W F n ∧ hAt W F n ≤ 2097152 := by
  unfold hAt; cases n <;> simp <;> omega
end Go.Proofs.YthmhehehomieiaaGreat

/- Contracts of the program's Used, Left, Room, In, From, Begin, Take, Flip, Drop. -/
namespace Go.Proofs.YthmhehehomieiaaGreat
open Go.RowKit

theorem half_from (a u : Int) (w : World) : (Instr.field 150 (.agg #[.int .i64 a, .int .i64 u]) 0).run Tryz.prog w = .ok (.int .i64 a) w := by kernel_rfl
theorem half_used (a u : Int) (w : World) : (Instr.field 150 (.agg #[.int .i64 a, .int .i64 u]) 1).run Tryz.prog w = .ok (.int .i64 u) w := by kernel_rfl

set_option maxHeartbeats 1000000 in
theorem bUsed_nil (w : World) : Calls Tryz.prog 68 #[.pointer none] w fun e w' => e = .returned (.int .i64 0) ∧ Below w.heap.size w w' := by
  have fd := half_used
  go_enter Tryz.func68, Tryz.ntmps68
  go_wp2_with fail
  refine (filled_nil _).mono ?_
  rintro e w1 ⟨rfl, b1⟩
  go_wp2
  go_ret
  exact ⟨rfl, b1⟩

set_option maxHeartbeats 1000000 in
theorem bLeft_nil (w : World) : Calls Tryz.prog 51 #[.pointer none] w fun e w' => e = .returned (.int .i64 0) ∧ Below w.heap.size w w' := by
  have fd := half_used
  go_enter Tryz.func51, Tryz.ntmps51
  go_wp2_with fail
  refine (other_nil _).mono ?_
  rintro e w1 ⟨rfl, b1⟩
  go_wp2
  go_ret
  exact ⟨rfl, b1⟩

set_option maxHeartbeats 1000000 in
theorem bRoom_nil (w : World) : Calls Tryz.prog 125 #[.pointer none] w fun e w' => e = .returned (.int .i64 0) ∧ Below w.heap.size w w' := by
  go_enter Tryz.func125, Tryz.ntmps125
  go_wp2
  go_ret
  exact ⟨rfl, Below.refl _ _⟩

set_option maxHeartbeats 1000000 in
theorem bIn_nil (x : Int) (w : World) : Calls Tryz.prog 130 #[.pointer none, .int .i64 x] w fun e w' => e = .returned (.bool (inH 0 0 x)) ∧ Below w.heap.size w w' := by
  go_enter Tryz.func130, Tryz.ntmps130
  go_wp2_with fail
  refine (filled_nil _).mono ?_
  rintro e w1 ⟨rfl, b1⟩
  go_wp2_with fail
  refine (bHas_any 0 0 x w1 (by omega) (by omega) (by omega) (by omega)).mono ?_
  rintro e w2 ⟨rfl, b2⟩
  go_wp2
  go_ret
  exact ⟨rfl, below_trans b1 b2⟩

set_option maxHeartbeats 1000000 in
theorem bFrom_nil (x : Int) (w : World) : Calls Tryz.prog 56 #[.pointer none, .int .i64 x] w fun e w' => e = .returned (.bool (inH 0 0 x)) ∧ Below w.heap.size w w' := by
  go_enter Tryz.func56, Tryz.ntmps56
  go_wp2_with fail
  refine (other_nil _).mono ?_
  rintro e w1 ⟨rfl, b1⟩
  go_wp2_with fail
  refine (bHas_any 0 0 x w1 (by omega) (by omega) (by omega) (by omega)).mono ?_
  rintro e w2 ⟨rfl, b2⟩
  go_wp2
  go_ret
  exact ⟨rfl, below_trans b1 b2⟩

set_option maxHeartbeats 1000000 in
theorem bBegin_nil (w : World) : Calls Tryz.prog 102 #[.pointer none] w fun e w' => e = .returned (.tuple #[.int .i64 0, .int .i64 0]) ∧ Below w.heap.size w w' := by
  have fd := half_from
  go_enter Tryz.func102, Tryz.ntmps102
  go_wp2_with fail
  refine (filled_nil _).mono ?_
  rintro e w1 ⟨rfl, b1⟩
  go_wp2_with fail
  refine (other_nil _).mono ?_
  rintro e w2 ⟨rfl, b2⟩
  go_wp2
  go_ret2
  exact ⟨rfl, below_trans b1 b2⟩

set_option maxHeartbeats 1000000 in
theorem bTake_nil (k : Int) (w : World) : Calls Tryz.prog 155 #[.pointer none, .int .i64 k] w fun e w' => e = .returned (.tuple #[.int .i64 0, .bool false]) ∧ Below w.heap.size w w' := by
  by_cases h : k < 1
  · go_enter Tryz.func155, Tryz.ntmps155
    go_wp2
    go_ret2
    exact ⟨rfl, Below.refl _ _⟩
  · go_enter Tryz.func155, Tryz.ntmps155
    go_wp2_with fail
    refine (bRoom_nil _).mono ?_
    rintro e w1 ⟨rfl, b1⟩
    go_wp2
    go_ret2
    exact ⟨rfl, b1⟩

set_option maxHeartbeats 1000000 in
theorem bFlip_nil (w : World) : Calls Tryz.prog 100 #[.pointer none] w fun e w' => e = .returned (.bool false) ∧ Below w.heap.size w w' := by
  go_enter Tryz.func100, Tryz.ntmps100
  go_wp2
  go_ret
  exact ⟨rfl, Below.refl _ _⟩

set_option maxHeartbeats 1000000 in
theorem bDrop_nil (w : World) : Calls Tryz.prog 137 #[.pointer none] w fun e w' => e = .returned (.bool false) ∧ Below w.heap.size w w' := by
  go_enter Tryz.func137, Tryz.ntmps137
  go_wp2_with fail
  refine (bLeft_nil _).mono ?_
  rintro e w1 ⟨rfl, b1⟩
  go_wp2
  go_ret
  exact ⟨rfl, b1⟩

section
variable (b : Nat) (W F : Int) (n : Bool) (u v : Int) (w : World)

set_option maxHeartbeats 1000000 in
theorem bUsed_any (h : IsBp w b W F n u v) : Calls Tryz.prog 68 #[bpP b] w fun e w' => e = .returned (.int .i64 u) ∧ Below w.heap.size w w' := by
  have HH := Lib.hid h
  clear h
  have fd := half_used
  go_enter Tryz.func68, Tryz.ntmps68
  go_wp2_with fail
  refine (filled_any b W F n u v w HH.out).mono ?_
  rintro e w1 ⟨rfl, b1⟩
  go_wp2
  go_ret
  exact ⟨rfl, b1⟩

set_option maxHeartbeats 1000000 in
theorem bLeft_any (h : IsBp w b W F n u v) : Calls Tryz.prog 51 #[bpP b] w fun e w' => e = .returned (.int .i64 v) ∧ Below w.heap.size w w' := by
  have HH := Lib.hid h
  clear h
  have fd := half_used
  go_enter Tryz.func51, Tryz.ntmps51
  go_wp2_with fail
  refine (other_any b W F n u v w HH.out).mono ?_
  rintro e w1 ⟨rfl, b1⟩
  go_wp2
  go_ret
  exact ⟨rfl, b1⟩

theorem IsBp.first {w : World} {b : Nat} {W F u v : Int} {n : Bool} (h : IsBp w b W F n u v) : w.cell? ⟨b, 0, none⟩ = some (.int .i64 W) := by
  have := h.blk.cell 0
  cases n <;> exact this

set_option maxHeartbeats 2000000 in
theorem bRoom_any (h : IsBp w b W F n u v) : Calls Tryz.prog 125 #[bpP b] w fun e w' => e = .returned (.int .i64 (W - u)) ∧ Below w.heap.size w w' := by
  have w0 := h.w0
  have w1 := h.w1
  have u0 := h.u0
  have u1 := h.u1
  have kk := h.keep (below_drew w)
  have bb := below_drew w
  have HH := Lib.hid h
  have c0 := h.first
  have hs : IntKind.i64.wrap (W - u) = W - u := IntWalk.i64_in _ (by omega)
  clear h
  go_enter Tryz.func125, Tryz.ntmps125
  go_wp2_with fail
  clear c0
  go_region_held3 (fun w' => w'.cell? ⟨b, 0, none⟩ = some (.int .i64 W)) (exact kk.first)
    ((go_at_call 68; refine (bUsed_any b W F n u v _ kk).mono ?_; rintro e v1 ⟨rfl, b2⟩; have kk := kk.keep b2; have bb := below_trans bb b2; clear b2))
  all_goals
    go_wp2
    go_ret
    exact ⟨rfl, bb⟩

set_option maxHeartbeats 1000000 in
theorem bIn_any (x : Int) (h : IsBp w b W F n u v) : Calls Tryz.prog 130 #[bpP b, .int .i64 x] w fun e w' => e = .returned (.bool (inH (hAt W F n) u x)) ∧ Below w.heap.size w w' := by
  have HH := Lib.hid h
  have HI := Lib.hid (hAt_in n h.w0 h.w1 h.f0 h.f1)
  clear h
  generalize hA : hAt W F n = A at HI ⊢
  have HA := Lib.hid hA
  clear hA
  go_enter Tryz.func130, Tryz.ntmps130
  go_wp2_with fail
  refine (filled_any b W F n u v w HH.out).mono ?_
  rw [HA.out]
  rintro e w1 ⟨rfl, b1⟩
  go_wp2_with fail
  refine (bHas_any A u x w1 HI.out.1 HI.out.2 HH.out.u0 (Int.le_trans HH.out.u1 HH.out.w1)).mono ?_
  rintro e w2 ⟨rfl, b2⟩
  go_wp2
  go_ret
  exact ⟨rfl, below_trans b1 b2⟩

set_option maxHeartbeats 1000000 in
theorem bFrom_any (x : Int) (h : IsBp w b W F n u v) : Calls Tryz.prog 56 #[bpP b, .int .i64 x] w fun e w' => e = .returned (.bool (inH (hAt W F (!n)) v x)) ∧ Below w.heap.size w w' := by
  have HH := Lib.hid h
  have HI := Lib.hid (hAt_in (!n) h.w0 h.w1 h.f0 h.f1)
  clear h
  generalize hA : hAt W F (!n) = A at HI ⊢
  have HA := Lib.hid hA
  clear hA
  go_enter Tryz.func56, Tryz.ntmps56
  go_wp2_with fail
  refine (other_any b W F n u v w HH.out).mono ?_
  rw [HA.out]
  rintro e w1 ⟨rfl, b1⟩
  go_wp2_with fail
  refine (bHas_any A v x w1 HI.out.1 HI.out.2 HH.out.v0 (Int.le_trans HH.out.v1 HH.out.w1)).mono ?_
  rintro e w2 ⟨rfl, b2⟩
  go_wp2
  go_ret
  exact ⟨rfl, below_trans b1 b2⟩

set_option maxHeartbeats 1000000 in
theorem bBegin_any (h : IsBp w b W F n u v) : Calls Tryz.prog 102 #[bpP b] w fun e w' => e = .returned (.tuple #[.int .i64 (hAt W F n), .int .i64 (hAt W F (!n))]) ∧ Below w.heap.size w w' := by
  have HH := Lib.hid h
  clear h
  generalize hA : hAt W F n = A
  generalize hB : hAt W F (!n) = B
  have HA := Lib.hid hA
  have HB := Lib.hid hB
  clear hA hB
  have fd := half_from
  go_enter Tryz.func102, Tryz.ntmps102
  go_wp2_with fail
  refine (filled_any b W F n u v w HH.out).mono ?_
  rw [HA.out]
  rintro e w1 ⟨rfl, b1⟩
  go_wp2_with fail
  refine (other_any b W F n u v w1 (HH.out.keep b1)).mono ?_
  rw [HB.out]
  rintro e w2 ⟨rfl, b2⟩
  go_wp2
  go_ret2
  exact ⟨rfl, below_trans b1 b2⟩

set_option maxHeartbeats 1000000 in
theorem bTake_no (k : Int) (h : IsBp w b W F n u v) (hk : k < 1 ∨ W - u < k) :
    Calls Tryz.prog 155 #[bpP b, .int .i64 k] w fun e w' => e = .returned (.tuple #[.int .i64 0, .bool false]) ∧ Below w.heap.size w w' := by
  have HH := Lib.hid h
  clear h
  by_cases h1 : k < 1
  · clear hk
    go_enter Tryz.func155, Tryz.ntmps155
    go_wp2
    go_ret2
    exact ⟨rfl, Below.refl _ _⟩
  · have h2 : W - u < k := by omega
    clear hk
    go_enter Tryz.func155, Tryz.ntmps155
    go_wp2_with fail
    refine (bRoom_any b W F n u v w HH.out).mono ?_
    rintro e w1 ⟨rfl, b1⟩
    go_wp2
    go_ret2
    exact ⟨rfl, b1⟩

end

section
variable {w : World} {b : Nat} {W F u v : Int} {n : Bool}
theorem IsBp.setU (h : IsBp w b W F n u v) (x : Int) (x0 : 0 ≤ x) (x1 : x ≤ W) : IsBp (w.setCell ⟨b, bif n then 4 else 2, none⟩ (.int .i64 x)) b W F n x v :=
  { h with blk := by have := h.blk.set_ (bif n then 4 else 2) (.int .i64 x); cases n <;> exact this
           u0 := x0
           u1 := x1 }
theorem IsBp.setV (h : IsBp w b W F n u v) (x : Int) (x0 : 0 ≤ x) (x1 : x ≤ W) : IsBp (w.setCell ⟨b, bif n then 2 else 4, none⟩ (.int .i64 x)) b W F n u x :=
  { h with blk := by have := h.blk.set_ (bif n then 2 else 4) (.int .i64 x); cases n <;> exact this
           v0 := x0
           v1 := x1 }
theorem IsBp.turn (h : IsBp w b W F n u v) : IsBp (w.setCell ⟨b, 5, none⟩ (.int .i64 (bif n then 0 else 1))) b W F (!n) v u :=
  { h with blk := by have := h.blk.set_ 5 (.int .i64 (bif n then 0 else 1)); cases n <;> exact this
           u0 := h.v0
           u1 := h.v1
           v0 := h.u0
           v1 := h.u1 }
theorem frm_one {w w1 : World} {b : Nat} (h : Below w.heap.size w w1) (i : Nat) (x : Value) : Frm (· = b) w (w1.setCell ⟨b, i, none⟩ x) :=
  (Frm.of_below (S := fun k => k = b) h).setCell (p := ⟨b, i, none⟩) (fun _ => rfl) x
end

section
variable (b : Nat) (W F : Int) (n : Bool) (u v : Int) (w : World)

set_option maxHeartbeats 4000000 in
theorem bTake_yes (k : Int) (h : IsBp w b W F n u v) (h1 : 1 ≤ k) (h2 : k ≤ W - u) :
    Calls Tryz.prog 155 #[bpP b, .int .i64 k] w fun e w' => e = .returned (.tuple #[.int .i64 (hAt W F n + u), .bool true]) ∧ IsBp w' b W F n (u + k) v ∧ Frm (· = b) w w' := by
  have w0 := h.w0
  have w1 := h.w1
  have f0 := h.f0
  have f1 := h.f1
  have u0 := h.u0
  have u1 := h.u1
  have HH := Lib.hid h
  clear h
  cases n
  all_goals
    go_enter Tryz.func155, Tryz.ntmps155
    go_wp2_with fail
    refine (bRoom_any b W F _ u v w HH.out).mono ?_
    rintro e w1 ⟨rfl, b1⟩
    have hi := HH.out.keep b1
    have hl := hi.lt
    obtain ⟨c0, c1, c2, c3, c4, c5, cf⟩ := hi.blk.six
    have HI := Lib.hid hi
    clear hi c0
    go_wp2_with fail
    go_region
    go_wp2_with fail
    go_region
    go_wp2
    go_ret2
    refine ⟨rfl, ?_, ?_⟩
    · exact ((HI.out.setU (u + k) (by omega) (by omega)).keep (below_drew _)).keep (below_drew _)
    · exact (frm_one b1 _ _).drew.drew

set_option maxHeartbeats 4000000 in
theorem bFlip_no (h : IsBp w b W F n u v) (hv : 0 < v) :
    Calls Tryz.prog 100 #[bpP b] w fun e w' => e = .returned (.bool false) ∧ Below w.heap.size w w' := by
  have HH := Lib.hid h
  clear h
  go_enter Tryz.func100, Tryz.ntmps100
  go_wp2_with fail
  refine (bLeft_any b W F n u v w HH.out).mono ?_
  rintro e w1 ⟨rfl, b1⟩
  go_wp2
  go_ret
  exact ⟨rfl, b1⟩

set_option maxHeartbeats 4000000 in
theorem bFlip_yes (h : IsBp w b W F n u 0) :
    Calls Tryz.prog 100 #[bpP b] w fun e w' => e = .returned (.bool true) ∧ IsBp w' b W F (!n) 0 u ∧ Frm (· = b) w w' := by
  have HH := Lib.hid h
  clear h
  cases n
  all_goals
    go_enter Tryz.func100, Tryz.ntmps100
    go_wp2_with fail
    refine (bLeft_any b W F _ u 0 w HH.out).mono ?_
    rintro e w1 ⟨rfl, b1⟩
    have hi := HH.out.keep b1
    have hl := hi.lt
    obtain ⟨c0, c1, c2, c3, c4, c5, cf⟩ := hi.blk.six
    have HI := Lib.hid hi
    clear hi c0 c1 c2 c3 c4
    go_wp2
    go_ret
    exact ⟨rfl, HI.out.turn, frm_one b1 _ _⟩

set_option maxHeartbeats 4000000 in
theorem bDrop_no (h : IsBp w b W F n u 0) :
    Calls Tryz.prog 137 #[bpP b] w fun e w' => e = .returned (.bool false) ∧ Below w.heap.size w w' := by
  have HH := Lib.hid h
  clear h
  go_enter Tryz.func137, Tryz.ntmps137
  go_wp2_with fail
  refine (bLeft_any b W F n u 0 w HH.out).mono ?_
  rintro e w1 ⟨rfl, b1⟩
  go_wp2
  go_ret
  exact ⟨rfl, b1⟩

set_option maxHeartbeats 4000000 in
theorem bDrop_yes (h : IsBp w b W F n u v) (hv : 0 < v) :
    Calls Tryz.prog 137 #[bpP b] w fun e w' => e = .returned (.bool true) ∧ IsBp w' b W F n u 0 ∧ Frm (· = b) w w' := by
  have w0 := h.w0
  have HH := Lib.hid h
  have hv2 : (v == 0) = false := by simp; omega
  have hv3 : decide (v = 0) = false := by simp; omega
  clear h
  cases n
  all_goals
    go_enter Tryz.func137, Tryz.ntmps137
    go_wp2_with fail
    refine (bLeft_any b W F _ u v w HH.out).mono ?_
    rintro e w1 ⟨rfl, b1⟩
    have hi := HH.out.keep b1
    have hl := hi.lt
    obtain ⟨c0, c1, c2, c3, c4, c5, cf⟩ := hi.blk.six
    have HI := Lib.hid hi
    clear hi c0
    go_wp2_with fail
    go_region
    go_wp2
    go_ret
    refine ⟨rfl, ?_, ?_⟩
    · exact (HI.out.setV 0 (by omega) (by omega)).keep (below_drew _)
    · exact (frm_one b1 _ _).drew
end
end Go.Proofs.YthmhehehomieiaaGreat

/- The number of pages as a function of numbers; the contract of the document's Pages. -/
namespace Go.Proofs.YthmhehehomieiaaGreat
open Go.RowKit

theorem quiet_below {k : Nat} {xs : Array Value} {w : World} {v : Value} (h : Calls Tryz.prog k xs w fun e w' => e = .returned v ∧ w = w') :
    Calls Tryz.prog k xs w fun e w' => e = .returned v ∧ Below w.heap.size w w' := h.mono fun e w' ⟨he, hw⟩ => ⟨he, by subst hw; exact Below.refl _ _⟩

def pagesI (p w : Int) : Int := if p < 1 ∨ w < 1 then 0 else (w - 1) / p + 1

theorem tdiv_of {a b : Int} (h : 0 ≤ a) : a.tdiv b = a / b := Int.tdiv_eq_ediv_of_nonneg h

/-- As many pages as the quotient says, and one more for what is left. -/
theorem pagesI_left {p n : Int} (hp : ¬ p < 1) (hn : ¬ n < 1) (h : 0 < n % p) : pagesI p n = n / p + 1 := by
  have e := Int.mul_ediv_add_emod n p
  have l := Int.emod_lt_of_pos n (show 0 < p by omega)
  have : (n - 1) / p = n / p := by
    rw [Int.ediv_eq_iff_of_pos (by omega)]
    constructor
    · rw [Int.mul_comm]; omega
    · rw [Int.mul_comm]; omega
  rw [pagesI, if_neg (by omega), this]

theorem pagesI_even {p n : Int} (hp : ¬ p < 1) (hn : ¬ n < 1) (h : n % p = 0) : pagesI p n = n / p := by
  have e := Int.mul_ediv_add_emod n p
  have : (n - 1) / p = n / p - 1 := by
    have m : p * (n / p - 1) = p * (n / p) - p := by rw [Int.mul_sub, Int.mul_one]
    rw [Int.ediv_eq_iff_of_pos (by omega)]
    constructor
    · rw [Int.mul_comm]; omega
    · rw [Int.mul_comm]; omega
  rw [pagesI, if_neg (by omega), this]
  omega


theorem pagesI_enough {p n : Int} (hp : 1 ≤ p) (hn : 1 ≤ n) : 1 ≤ pagesI p n ∧ pagesI p n ≤ n ∧ n ≤ pagesI p n * p ∧ (pagesI p n - 1) * p < n ∧ pagesI p n * p < n + p := by
  have e := Int.mul_ediv_add_emod (n - 1) p
  have m0 : 0 ≤ (n - 1) % p := Int.emod_nonneg _ (by omega)
  have m1 := Int.emod_lt_of_pos (n - 1) (show 0 < p by omega)
  have q0 : 0 ≤ (n - 1) / p := Int.ediv_nonneg (by omega) (by omega)
  have q1 : (n - 1) / p ≤ n - 1 := Int.ediv_le_self p (by omega)
  rw [show pagesI p n = (n - 1) / p + 1 from if_neg (by omega)]
  have x : ((n - 1) / p + 1) * p = p * ((n - 1) / p) + p := by rw [Int.add_mul, Int.mul_comm, Int.one_mul]
  have y : ((n - 1) / p + 1 - 1) * p = p * ((n - 1) / p) := by rw [Int.add_sub_cancel, Int.mul_comm]
  omega
end Go.Proofs.YthmhehehomieiaaGreat

/- The size of a cell and the number of pages as functions of numbers; what is so of them; the contracts of the document's Round and Pages. -/
namespace Go.Proofs.YthmhehehomieiaaGreat
open Go.RowKit

/-- The least of the sizes a, 3a/2, 2a, .. that is w or more, k doublings far; behind them the last. -/
def rnd : Nat → Int → Int → Int
  | 0, a, _ => a
  | k + 1, a, w => if w ≤ a then a else if w ≤ a + a / 2 then a + a / 2 else rnd k (2 * a) w

def roundI (w : Int) : Int := rnd 38 4 w

theorem rnd_first {k : Nat} {a w : Int} (h : w ≤ a) : rnd (k + 1) a w = a := by unfold rnd; rw [if_pos h]
theorem rnd_second {k : Nat} {a w : Int} (h : ¬ w ≤ a) (h2 : w ≤ a + a / 2) : rnd (k + 1) a w = a + a / 2 := by unfold rnd; rw [if_neg h, if_pos h2]
theorem rnd_more {k : Nat} {a w : Int} (h : ¬ w ≤ a) (h2 : ¬ w ≤ a + a / 2) : rnd (k + 1) a w = rnd k (2 * a) w := by rw [rnd, if_neg h, if_neg h2]

/-- a, doubled k times, is 2^40. -/
def Far : Nat → Int → Prop
  | 0, a => a = 1099511627776
  | k + 1, a => 4 ≤ a ∧ a % 4 = 0 ∧ a ≤ 549755813888 ∧ Far k (2 * a)

theorem far_start : Far 38 4 := by
  simp [Far]

theorem far_bounds {k : Nat} {a : Int} (h : Far k a) : 4 ≤ a ∧ a % 4 = 0 ∧ a ≤ 1099511627776 := by
  cases k with
  | zero => cases h; omega
  | succ k => obtain ⟨h0, h1, h2, _⟩ := h; omega

theorem rnd_ge {k : Nat} {a n : Int} (h : Far k a) (hn : n ≤ 1099511627776) : n ≤ rnd k a n ∧ a ≤ rnd k a n ∧ rnd k a n ≤ 1099511627776 := by
  induction k generalizing a with
  | zero => cases h; exact ⟨hn, Int.le_refl _, Int.le_refl _⟩
  | succ k ih =>
    obtain ⟨h0, h1, h2, h3⟩ := h
    by_cases g : n ≤ a
    · rw [rnd_first g]; omega
    · by_cases g2 : n ≤ a + a / 2
      · rw [rnd_second g g2]; omega
      · rw [rnd_more g g2]
        have := ih h3
        omega

/-- Any number's size is 4 or more, and 2^40 at most. -/
theorem rnd_in {k : Nat} {a : Int} (n : Int) (h : Far k a) : a ≤ rnd k a n ∧ rnd k a n ≤ 1099511627776 := by
  induction k generalizing a with
  | zero => cases h; exact ⟨Int.le_refl _, Int.le_refl _⟩
  | succ k ih =>
    obtain ⟨h0, h1, h2, h3⟩ := h
    by_cases g : n ≤ a
    · rw [rnd_first g]; omega
    · by_cases g2 : n ≤ a + a / 2
      · rw [rnd_second g g2]; omega
      · rw [rnd_more g g2]
        have := ih h3
        omega

theorem rnd_tight {k : Nat} {a n : Int} (h : Far k a) (hn : n ≤ 1099511627776) (hp : (a = 4 ∧ 0 ≤ n) ∨ 3 * a < 4 * n) : rnd k a n < 2 * n + 7 := by
  induction k generalizing a with
  | zero => cases h; simp only [rnd]; omega
  | succ k ih =>
    obtain ⟨h0, h1, h2, h3⟩ := h
    by_cases g : n ≤ a
    · rw [rnd_first g]; omega
    · by_cases g2 : n ≤ a + a / 2
      · rw [rnd_second g g2]; omega
      · rw [rnd_more g g2]
        exact ih h3 (Or.inr (by omega))

theorem rnd_mono {k : Nat} {a m n : Int} (h : Far k a) (hmn : m ≤ n) : rnd k a m ≤ rnd k a n := by
  induction k generalizing a with
  | zero => exact Int.le_refl _
  | succ k ih =>
    have hb := rnd_in n h
    obtain ⟨h0, h1, h2, h3⟩ := h
    by_cases g : m ≤ a
    · rw [rnd_first g]; omega
    · by_cases g2 : m ≤ a + a / 2
      · rw [rnd_second g g2]
        by_cases g3 : n ≤ a + a / 2
        · rw [rnd_second (by omega) g3]; omega
        · rw [rnd_more (by omega) g3]
          have := rnd_in n h3
          omega
      · rw [rnd_more g g2, rnd_more (by omega) (by omega)]
        exact ih h3

theorem rnd_again {k : Nat} {a : Int} (n : Int) (h : Far k a) : rnd k a (rnd k a n) = rnd k a n := by
  induction k generalizing a with
  | zero => rfl
  | succ k ih =>
    obtain ⟨h0, h1, h2, h3⟩ := h
    by_cases g : n ≤ a
    · rw [rnd_first g, rnd_first (Int.le_refl a)]
    · by_cases g2 : n ≤ a + a / 2
      · rw [rnd_second g g2, rnd_second (by omega) (Int.le_refl _)]
      · rw [rnd_more g g2]
        have := rnd_in n h3
        rw [rnd_more (by omega) (by omega), ih h3]

theorem roundI_ge {n : Int} (hn : n ≤ 1099511627776) : n ≤ roundI n := (rnd_ge far_start hn).1
theorem roundI_in (n : Int) : 4 ≤ roundI n ∧ roundI n ≤ 1099511627776 := rnd_in n far_start
theorem roundI_tight {n : Int} (h0 : 0 ≤ n) (hn : n ≤ 1099511627776) : roundI n < 2 * n + 7 := rnd_tight far_start hn (Or.inl ⟨rfl, h0⟩)
theorem roundI_mono {m n : Int} (h : m ≤ n) : roundI m ≤ roundI n := rnd_mono far_start h
theorem roundI_again (n : Int) : roundI (roundI n) = roundI n := rnd_again n far_start

end Go.Proofs.YthmhehehomieiaaGreat

/- The document's space (cells in a list, pages that are pending) as it lies in memory; contract of which page a place is in. -/
namespace Go.Proofs.YthmhehehomieiaaGreat
open Go.RowKit

/-- Something in use, or not, in a block; or something large. -/
structure Rc where
  pos : Int
  words : Int
  used : Bool
  large : Bool

def Rc.vs (c : Rc) : List Value := [.int .i64 c.pos, .int .i64 c.words, .bool c.used, .bool c.large]
def rcV (cs : List Rc) : List Value := cs.flatMap Rc.vs

def spP (a : Nat) : Value := .pointer (some ⟨a, 0, none⟩)

/-- What is asked of a cell's numbers. -/
def Sane (c : Rc) : Prop := 0 ≤ c.pos ∧ c.pos ≤ 2097152 ∧ 1 ≤ c.words ∧ c.words ≤ 2097152


theorem rcV_length (cs : List Rc) : (rcV cs).length = cs.length * 4 := by
  induction cs with
  | nil => rfl
  | cons c cs ih => simp only [rcV, List.flatMap_cons, List.length_append, List.length_cons] at ih ⊢; rw [ih]; simp [Rc.vs]; omega

theorem rcV_at (cs : List Rc) (i j : Nat) (c : Rc) (h : cs[i]? = some c) (hj : j < 4) : (rcV cs)[i * 4 + j]? = c.vs[j]? := by
  induction cs generalizing i with
  | nil => simp at h
  | cons d cs ih =>
    cases i with
    | zero =>
      obtain rfl : d = c := by simpa using h
      simp only [rcV, List.flatMap_cons, Nat.zero_mul, Nat.zero_add]
      exact List.getElem?_append_left (by simpa [Rc.vs] using hj)
    | succ i =>
      have := ih i (by simpa using h)
      rw [← this]
      simp only [rcV, List.flatMap_cons]
      rw [List.getElem?_append_right (by simp [Rc.vs]; omega)]
      congr 1
      simp [Rc.vs]
      omega


def ofI (F G n : Int) : Int := (n - F).tdiv G

theorem ofI_in {F G n : Int} (f0 : 0 ≤ F) (f1 : F ≤ 1048576) (g0 : 1 ≤ G) (n0 : -1099511627776 ≤ n) (n1 : n ≤ 1099511627776) : -2199023255552 ≤ ofI F G n ∧ ofI F G n ≤ 2199023255552 := by
  unfold ofI
  rcases Int.lt_or_le (n - F) 0 with h | h
  · obtain ⟨q, hq⟩ : ∃ q, n - F = - q := ⟨-(n - F), by omega⟩
    rw [hq, Int.neg_tdiv, tdiv_of (by omega)]
    have := Int.ediv_nonneg (show 0 ≤ q by omega) (show 0 ≤ G by omega)
    have := Int.ediv_le_self G (show 0 ≤ q by omega)
    omega
  · rw [tdiv_of h]
    have := Int.ediv_nonneg h (show 0 ≤ G by omega)
    have := Int.ediv_le_self G h
    omega

theorem Blk.five {w : World} {b : Nat} {t : TypeId} {v0 v1 v2 v3 v4 : Value} (h : Blk w b #[v0, v1, v2, v3, v4] t) :
    w.cell? ⟨b, 0, none⟩ = some v0 ∧ w.cell? ⟨b, 1, none⟩ = some v1 ∧ w.cell? ⟨b, 2, none⟩ = some v2 ∧ w.cell? ⟨b, 3, none⟩ = some v3 ∧ w.cell? ⟨b, 4, none⟩ = some v4 ∧ (∀ i, w.frozen? ⟨b, i, none⟩ = false) :=
  ⟨h.cell 0, h.cell 1, h.cell 2, h.cell 3, h.cell 4, h.frozen⟩

theorem ownsRow_keep {w w' : World} {e : TypeId} {k : Nat} {v : Value} {n : Nat} {xs : List Value} (h : w.ownsRow 0 e k v n xs) (b : Below w.heap.size w w') : w'.ownsRow 0 e k v n xs := by
  refine ⟨h.1, h.2.imp id ?_⟩
  rintro ⟨g, cap, cur, e1, e2, e3, e4⟩
  exact ⟨g, cap, cur, e1, e2, (b.block g (Array.getElem?_eq_some_iff.1 e3).1).trans e3, e4⟩

end Go.Proofs.YthmhehehomieiaaGreat

/- Contracts of the document's free, find, Size and Count. -/
namespace Go.Proofs.YthmhehehomieiaaGreat
open Go.RowKit

/-- Does something of the cell lie in page n? -/
def onB (F G n : Int) (c : Rc) : Bool := decide (ofI F G c.pos ≤ n) && decide (n ≤ ofI F G (c.pos + c.words - 1))

def freeB (F G : Int) (cs : List Rc) (n : Int) : Bool := cs.all fun c => !onB F G n c


def hitB (n : Int) (c : Rc) : Bool := decide (c.pos = n) && c.used

/-- Where the first cell in use lies that begins at n; below 0: nowhere. -/
def findI (cs : List Rc) (n : Int) : Int := match cs.findIdx? (hitB n) with
  | some i => i
  | none => -1


def sizeV (cs : List Rc) (n : Int) : Value := match cs.find? (hitB n) with
  | some c => .tuple #[.int .i64 c.words, .bool true]
  | none => .tuple #[.int .i64 0, .bool false]

theorem findI_cases (cs : List Rc) (n : Int) : (∃ (i : Nat) (c : Rc), findI cs n = i ∧ cs[i]? = some c ∧ cs.find? (hitB n) = some c ∧ hitB n c = true) ∨ (findI cs n = -1 ∧ cs.find? (hitB n) = none) := by
  unfold findI
  cases h : cs.findIdx? (hitB n) with
  | none => exact Or.inr ⟨rfl, by rw [List.findIdx?_eq_none_iff] at h; rw [List.find?_eq_none]; intro x hx; rw [h x hx]; exact Bool.false_ne_true⟩
  | some i =>
    have h1 := List.findIdx?_eq_some_iff_getElem.1 h
    obtain ⟨hi, hp, hn⟩ := h1
    refine Or.inl ⟨i, cs[i], rfl, List.getElem?_eq_getElem hi, ?_, hp⟩
    rw [List.find?_eq_some_iff_getElem]
    exact ⟨hp, i, hi, rfl, fun j hj => by simpa using hn j hj⟩


/-- Pages below k that are free. -/
def freesI (F G : Int) (cs : List Rc) : Nat → Int
  | 0 => 0
  | k + 1 => freesI F G cs k + (if freeB F G cs k then 1 else 0)

def usedI : List Rc → Int
  | [] => 0
  | c :: cs => (if c.used then c.words else 0) + usedI cs

theorem freesI_in (F G : Int) (cs : List Rc) (k : Nat) : 0 ≤ freesI F G cs k ∧ freesI F G cs k ≤ k := by
  induction k with
  | zero => exact ⟨Int.le_refl _, Int.le_refl _⟩
  | succ k ih => simp only [freesI]; split <;> omega

theorem usedI_in (cs : List Rc) (h : ∀ c ∈ cs, Sane c) : 0 ≤ usedI cs ∧ usedI cs ≤ 2097152 * cs.length := by
  induction cs with
  | nil => exact ⟨Int.le_refl _, Int.le_refl _⟩
  | cons c cs ih =>
    have := ih fun d hd => h d (List.mem_cons_of_mem _ hd)
    obtain ⟨s0, s1, s2, s3⟩ := h c (List.mem_cons_self ..)
    simp only [usedI, List.length_cons]
    split <;> omega

theorem usedI_snoc (cs : List Rc) (c : Rc) : usedI (cs ++ [c]) = usedI cs + (if c.used then c.words else 0) := by
  induction cs with
  | nil => simp [usedI]
  | cons d cs ih => simp only [List.cons_append, usedI, ih]; omega

theorem take_snoc {α : Type} {cs : List α} {j : Nat} {c : α} (h : cs[j]? = some c) : cs.take (j + 1) = cs.take j ++ [c] := by
  rw [List.take_add_one, h]; rfl

end Go.Proofs.YthmhehehomieiaaGreat
