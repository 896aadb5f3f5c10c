/- The document's graph: what Shown tells, as it lies in memory. -/
import Derived.Test.YtjjjeeffllelaaaRhD
namespace Go.Proofs.Ytjjjeeffllelaaa
open Go.RowKit

/-- A node that is told: numbers in the slice (A, c), scalars in block sb. -/
structure Tn where
  A : Option Addr
  c : Nat
  ps : List Int
  sb : Nat
  ss : List Int
def Tn.vs (t : Tn) : List Value := [.slice t.A t.ps.length t.c, .slice (some ⟨t.sb, 0, none⟩) t.ss.length t.ss.length]
def Tn.two (t : Tn) : List Int × List Int := (t.ps, t.ss)
def tnV (ts : List Tn) : List Value := ts.flatMap Tn.vs

theorem tnV_length (ts : List Tn) : (tnV ts).length = ts.length * 2 := by
  induction ts with
  | nil => rfl
  | cons t ts ih =>
    unfold tnV at ih ⊢
    rw [List.flatMap_cons, List.length_append, ih, List.length_cons]
    simp [Tn.vs]
    omega
theorem tnV_snoc (ts : List Tn) (t : Tn) : tnV (ts ++ [t]) = tnV ts ++ t.vs := by simp [tnV, List.flatMap_append]

/-- What was told so far lies in the slice v. -/
structure ShI (w0 w : World) (v : Value) (ts : List Tn) : Prop where
  bel : Below w0.heap.size w0 w
  row : w.ownsRow w0.heap.size 45 2 v ts.length (tnV ts)
  ps : ∀ t ∈ ts, Qu w t.A t.ps.length t.c t.ps ∧ ∀ k, blkOf t.A = some k → w0.heap.size ≤ k
  ss : ∀ t ∈ ts, Blk w0 t.sb (wordsU t.ss).toArray 28

/-- While a node is told. -/
structure TlI (w0 w : World) (v : Value) (ts : List Tn) (n0 x0 : Nat) (pv : Value) (A : Option Addr) (k c : Nat) (ys : List Int) (sv : Value) : Prop where
  sh : ShI w0 w v ts
  nb : Blk w n0 #[pv, sv] 45
  xb : Blk w x0 #[.slice A k c, sv] 45
  ne : n0 ≠ x0
  nlow : w0.heap.size ≤ n0
  xlow : w0.heap.size ≤ x0
  far : v.ownBlock ≠ some n0 ∧ v.ownBlock ≠ some x0
  q : Qu w A k c ys
  qlow : ∀ j, blkOf A = some j → w0.heap.size ≤ j
  dis : ∀ t ∈ ts, ∀ j, blkOf A = some j → blkOf t.A ≠ some j

section
variable {w0 w w' : World} {v pv sv : Value} {ts : List Tn} {n0 x0 k c : Nat} {A : Option Addr} {ys : List Int}

theorem grown_frm (h : w.grownBy w' v.ownBlock) : Frm (fun k => v.ownBlock = some k) w w' :=
  ⟨h.os, h.tape, h.output, h.size, fun k hk hn => h.block k hk (fun e => hn e.symm)⟩
theorem row_frm {S : Nat → Prop} {e : TypeId} {b k n : Nat} {xs : List Value} (h : w.ownsRow b e k v n xs) (f : Frm S w w') (hs : ∀ j, v.ownBlock = some j → ¬ S j) : w'.ownsRow b e k v n xs := by
  obtain ⟨hl, hv⟩ := h
  refine ⟨hl, hv.imp id ?_⟩
  rintro ⟨g, cap, cur, rfl, hb, hg, r⟩
  exact ⟨g, cap, cur, rfl, hb, (show Blk w' g cur e from Blk.frm (S := S) hg f (hs g rfl)), r⟩
theorem row_blk {e : TypeId} {b k n : Nat} {xs : List Value} (h : w.ownsRow b e k v n xs) {j : Nat} (hj : v.ownBlock = some j) : b ≤ j ∧ ∃ cur, Blk w j cur e := by
  rcases h.2 with ⟨e, _⟩ | ⟨g, cap, cur, rfl, hb, hg, _⟩
  · rw [e] at hj; cases hj
  · cases hj
    exact ⟨hb, cur, hg⟩
theorem Qu.ty (q : Qu w A k c ys) {j : Nat} (hj : blkOf A = some j) : ∃ cs, Blk w j cs 3 := by
  rcases q.lies with ⟨rfl, _⟩ | ⟨g, off, cs, rfl, hb, _⟩
  · cases hj
  · cases hj
    exact ⟨cs, hb⟩

theorem ShI.keep (h : ShI w0 w v ts) (f : Below w.heap.size w w') : ShI w0 w' v ts :=
  ⟨below_trans h.bel f, row_frm h.row (Frm.of_below (S := fun _ => False) f) fun _ _ e => e, fun t ht => ⟨(h.ps t ht).1.keep f, (h.ps t ht).2⟩, h.ss⟩

/-- Only one block has turned, that is none of what was told. -/
theorem ShI.frm {S : Nat → Prop} (h : ShI w0 w v ts) (f : Frm S w w') (h0 : ∀ j, S j → w0.heap.size ≤ j) (h1 : ∀ j, v.ownBlock = some j → ¬ S j) (h2 : ∀ t ∈ ts, ∀ j, blkOf t.A = some j → ¬ S j) : ShI w0 w' v ts :=
  ⟨Below.frm h.bel f h.bel.size fun k hk e => by have := h0 k e; omega, row_frm h.row f h1, fun t ht => ⟨(h.ps t ht).1.frm f (h2 t ht), (h.ps t ht).2⟩, h.ss⟩

theorem ShI.first (w : World) : ShI w (w.alloc (.cells #[] 45)) (.slice (some ⟨w.heap.size, 0, none⟩) 0 0) [] :=
  ⟨(Below.refl _ _).alloc (Nat.le_refl _) _, ⟨rfl, .inr ⟨w.heap.size, 0, #[], rfl, Nat.le_refl _, Blk.new w #[] 45, Nat.le_refl _, Nat.zero_le _, rfl, rfl⟩⟩, fun t h => (by cases h), fun t h => (by cases h)⟩

/-- Both boxes are there. -/
theorem ShI.boxes (h : ShI w0 w v ts) (pv sv : Value) {w1 w2 : World} (e1 : w.alloc (.cells #[pv, sv] 45) = w1) (e2 : w1.drew.alloc (.cells #[.slice none 0 0, sv] 45) = w2) :
    TlI w0 w2 v ts w.heap.size (w.heap.size + 1) pv none 0 0 [] sv := by
  have s1 : w1.heap.size = w.heap.size + 1 := by rw [← e1]; simp
  have f1 : Below w.heap.size w w1 := by rw [← e1]; exact (Below.refl _ _).alloc (Nat.le_refl _) _
  have f2 : Below w1.heap.size w1 w2 := by rw [← e2]; exact (below_drew w1).alloc (Nat.le_refl _) _
  have b1 : Blk w1 w.heap.size #[pv, sv] 45 := by rw [← e1]; exact Blk.new w _ _
  have b2 : Blk w2 (w.heap.size + 1) #[.slice none 0 0, sv] 45 := by
    have := Blk.new w1.drew #[.slice none 0 0, sv] 45
    rw [e2] at this
    rw [← s1]
    exact this
  have hl := h.bel.size
  refine ⟨h.keep (below_trans f1 f2), b1.keep f2, b2, by omega, hl, by omega, ⟨fun e => ?_, fun e => ?_⟩, Qu.nil _, fun j e => (by cases e), fun t ht j e => (by cases e)⟩
  · obtain ⟨_, cur, hb⟩ := row_blk h.row e
    have := hb.lt
    omega
  · obtain ⟨_, cur, hb⟩ := row_blk h.row e
    have := hb.lt
    omega

theorem TlI.keep (h : TlI w0 w v ts n0 x0 pv A k c ys sv) (f : Below w.heap.size w w') : TlI w0 w' v ts n0 x0 pv A k c ys sv :=
  { h with sh := h.sh.keep f, nb := h.nb.keep f, xb := h.xb.keep f, q := h.q.keep f }
theorem TlI.drew (h : TlI w0 w v ts n0 x0 pv A k c ys sv) : TlI w0 w.drew v ts n0 x0 pv A k c ys sv := h.keep (below_drew _)

/-- One more number. -/
theorem TlI.add (h : TlI w0 w v ts n0 x0 pv A k c ys sv) (y : Int) :
    Qu (w.alloc (.cells #[.int .i64 y] 3)) A k c ys ∧ (w.alloc (.cells #[.int .i64 y] 3)).cell? ⟨w.heap.size, 0, none⟩ = some (.int .i64 y) ∧
      ∀ A' c' w2, Qu w2 A' (k + 1) c' (ys ++ [y]) → Grw A A' (w.alloc (.cells #[.int .i64 y] 3)) w2 → w2.frozen? ⟨x0, 0, none⟩ = false ∧ w2.cell? ⟨x0, 0, none⟩ = some (.slice A k c) ∧ TlI w0 (w2.setCell ⟨x0, 0, none⟩ (.slice A' (k + 1) c')) v ts n0 x0 pv A' (k + 1) c' (ys ++ [y]) sv := by
  have al : Below w.heap.size w (w.alloc (.cells #[.int .i64 y] 3)) := (Below.refl _ _).alloc (Nat.le_refl _) _
  refine ⟨h.q.keep al, (Blk.new w #[.int .i64 y] 3).cell 0, fun A' c' w2 q gr => ?_⟩
  have sA : (w.alloc (.cells #[.int .i64 y] 3)).heap.size = w.heap.size + 1 := by simp
  have nodeFar : ∀ {j : Nat} {cs : Array Value}, Blk w j cs 45 → ¬ blkOf A = some j := fun hb e => by
    obtain ⟨cs, hi⟩ := h.q.ty e
    exact Blk.ne_ hi hb (by decide) rfl
  have vFar : ∀ j, v.ownBlock = some j → ¬ blkOf A = some j := fun j e => by
    obtain ⟨_, cur, hb⟩ := row_blk h.sh.row e
    exact nodeFar hb
  have sh2 := (h.sh.keep al).frm gr.frm h.qlow vFar fun t ht j e e2 => h.dis t ht j e2 e
  have nb2 := (h.nb.keep al).frm gr.frm (nodeFar h.nb)
  have xb2 := (h.xb.keep al).frm gr.frm (nodeFar h.xb)
  have fs : Frm (fun j => j = x0) w2 (w2.setCell ⟨x0, 0, none⟩ (.slice A' (k + 1) c')) := Frm.setCell (S := fun j => j = x0) (Frm.refl _ _) (p := ⟨x0, 0, none⟩) (fun _ => rfl) _
  have intFar : ∀ {B : Option Addr} {n d : Nat} {zs : List Int}, Qu w2 B n d zs → ∀ j, blkOf B = some j → ¬ j = x0 := fun hq j e e2 => by
    obtain ⟨cs, hi⟩ := hq.ty e
    exact Blk.ne_ hi xb2 (by decide) e2
  refine ⟨xb2.frozen 0, xb2.cell 0, ?_⟩
  exact
    { sh := sh2.frm fs (fun j e => by rw [e]; exact h.xlow) (fun j e e2 => h.far.2 (e2 ▸ e)) fun t ht j e => intFar (sh2.ps t ht).1 j e
      nb := nb2.frm fs h.ne
      xb := xb2.set_ 0 _
      ne := h.ne, nlow := h.nlow, xlow := h.xlow, far := h.far
      q := q.frm fs (intFar q)
      qlow := fun j e => by
        rcases gr.at_ j e with e | e
        · exact h.qlow j e
        · have := h.sh.bel.size; omega
      dis := fun t ht j e e2 => by
        rcases gr.at_ j e with e | e
        · exact h.dis t ht j e e2
        · have := (h.sh.ps t ht).1.lt e2; omega }

/-- While what handles hold is told. -/
structure HeI (w0 w : World) (v : Value) (ts : List Tn) (A : Option Addr) (k c : Nat) (ys : List Int) : Prop where
  sh : ShI w0 w v ts
  q : Qu w A k c ys
  qlow : ∀ j, blkOf A = some j → w0.heap.size ≤ j
  dis : ∀ t ∈ ts, ∀ j, blkOf A = some j → blkOf t.A ≠ some j

theorem HeI.keep (h : HeI w0 w v ts A k c ys) (f : Below w.heap.size w w') : HeI w0 w' v ts A k c ys := { h with sh := h.sh.keep f, q := h.q.keep f }
theorem HeI.first (h : ShI w0 w v ts) : HeI w0 (w.alloc (.cells #[] 3)) v ts (some ⟨w.heap.size, 0, none⟩) 0 0 [] :=
  ⟨h.keep ((Below.refl _ _).alloc (Nat.le_refl _) _), Qu.fresh w, fun j e => by cases e; exact h.bel.size, fun t ht j e e2 => by cases e; exact absurd ((h.ps t ht).1.lt e2) (Nat.lt_irrefl _)⟩
theorem HeI.add (h : HeI w0 w v ts A k c ys) (y : Int) :
    Qu (w.alloc (.cells #[.int .i64 y] 3)) A k c ys ∧ (w.alloc (.cells #[.int .i64 y] 3)).cell? ⟨w.heap.size, 0, none⟩ = some (.int .i64 y) ∧
      ∀ A' c' w2, Qu w2 A' (k + 1) c' (ys ++ [y]) → Grw A A' (w.alloc (.cells #[.int .i64 y] 3)) w2 → HeI w0 w2 v ts A' (k + 1) c' (ys ++ [y]) := by
  have al : Below w.heap.size w (w.alloc (.cells #[.int .i64 y] 3)) := (Below.refl _ _).alloc (Nat.le_refl _) _
  refine ⟨h.q.keep al, (Blk.new w #[.int .i64 y] 3).cell 0, fun A' c' w2 q gr => ?_⟩
  have sA : (w.alloc (.cells #[.int .i64 y] 3)).heap.size = w.heap.size + 1 := by simp
  have vFar : ∀ j, v.ownBlock = some j → ¬ blkOf A = some j := fun j e e2 => by
    obtain ⟨_, cur, hb⟩ := row_blk h.sh.row e
    obtain ⟨cs, hi⟩ := h.q.ty e2
    exact Blk.ne_ hi hb (by decide) rfl
  refine ⟨(h.sh.keep al).frm gr.frm h.qlow vFar fun t ht j e e2 => h.dis t ht j e2 e, q, fun j e => ?_, fun t ht j e e2 => ?_⟩
  · rcases gr.at_ j e with e | e
    · exact h.qlow j e
    · have := h.sh.bel.size; omega
  · rcases gr.at_ j e with e | e
    · exact h.dis t ht j e e2
    · have := (h.sh.ps t ht).1.lt e2; omega

/-- The node is told. -/
theorem TlI.done {sb : Nat} {ss : List Int} (h : TlI w0 w v ts n0 x0 pv A k c ys (.slice (some ⟨sb, 0, none⟩) ss.length ss.length)) (hk : k = ys.length) (hs : Blk w0 sb (wordsU ss).toArray 28) :
    (w.alloc (.cells #[.slice A k c, .slice (some ⟨sb, 0, none⟩) ss.length ss.length] 45)).ownsRow w0.heap.size 45 2 v ts.length (tnV ts) ∧
    (∀ j u, [Value.slice A k c, .slice (some ⟨sb, 0, none⟩) ss.length ss.length][j]? = some u → (w.alloc (.cells #[.slice A k c, .slice (some ⟨sb, 0, none⟩) ss.length ss.length] 45)).cell? ((⟨w.heap.size, 0, none⟩ : Addr).add j) = some u) ∧
    w0.heap.size ≤ (w.alloc (.cells #[.slice A k c, .slice (some ⟨sb, 0, none⟩) ss.length ss.length] 45)).heap.size ∧
    ∀ v' w', w'.ownsRow w0.heap.size 45 2 v' (ts.length + 1) (tnV ts ++ [Value.slice A k c, .slice (some ⟨sb, 0, none⟩) ss.length ss.length]) → (w.alloc (.cells #[.slice A k c, .slice (some ⟨sb, 0, none⟩) ss.length ss.length] 45)).grownBy w' v.ownBlock → ShI w0 w' v' (ts ++ [⟨A, c, ys, sb, ss⟩]) := by
  subst hk
  have al : Below w.heap.size w (w.alloc (.cells #[.slice A ys.length c, .slice (some ⟨sb, 0, none⟩) ss.length ss.length] 45)) := (Below.refl _ _).alloc (Nat.le_refl _) _
  have k1 := h.sh.keep al
  refine ⟨k1.row, fun j u hj => ?_, Nat.le_trans h.sh.bel.size al.size, fun v' w' ro gr => ?_⟩
  · rw [Addr.add_lit, Nat.zero_add, (Blk.new w _ _).cell]
    simpa using hj
  · have f := grown_frm gr
    have far : ∀ {B : Option Addr} {n d : Nat} {zs : List Int}, Qu w B n d zs → ∀ j, blkOf B = some j → ¬ v.ownBlock = some j := fun hq j e e2 => by
      obtain ⟨cs, hi⟩ := hq.ty e
      obtain ⟨_, cur, hb⟩ := row_blk h.sh.row e2
      exact Blk.ne_ hi hb (by decide) rfl
    refine ⟨Below.frm k1.bel f k1.bel.size fun j hj e => ?_, ?_, fun t ht => ?_, fun t ht => ?_⟩
    · have := (row_blk h.sh.row e).1; omega
    · rw [List.length_append, List.length_singleton, tnV_snoc]
      exact ro
    · rcases List.mem_append.1 ht with ht | ht
      · exact ⟨(k1.ps t ht).1.frm f (far (h.sh.ps t ht).1), (k1.ps t ht).2⟩
      · rw [List.mem_singleton.1 ht]
        exact ⟨(h.q.keep al).frm f (far h.q), h.qlow⟩
    · rcases List.mem_append.1 ht with ht | ht
      · exact h.sh.ss t ht
      · rw [List.mem_singleton.1 ht]; exact hs
end
end Go.Proofs.Ytjjjeeffllelaaa
