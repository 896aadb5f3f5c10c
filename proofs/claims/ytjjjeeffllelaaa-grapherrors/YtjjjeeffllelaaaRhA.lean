
/- What the handles of the document's graph come to, in order, as a function of lists; the flags of what was met. -/
import Derived.Test.YtjjjeeffllelaaaRgB
import Derived.Test.YtjjjeeffllelaaaRgC
namespace Go.Proofs.Ytjjjeeffllelaaa
open Go.RowKit

/-- One more is met. -/
def metL (L : List Int) (x : Int) : List Int := if x = 0 ∨ x ∈ L then L else L ++ [x]
def metsL (L xs : List Int) : List Int := xs.foldl metL L

theorem metsL_nil (L : List Int) : metsL L [] = L := rfl
theorem metsL_snoc (L xs : List Int) (x : Int) : metsL L (xs ++ [x]) = metL (metsL L xs) x := by unfold metsL; rw [List.foldl_append]; rfl
theorem metsL_take {L xs : List Int} {i : Nat} {x : Int} (h : xs[i]? = some x) : metsL L (xs.take (i + 1)) = metL (metsL L (xs.take i)) x := by
  rw [List.take_add_one, h, Option.toList_some, metsL_snoc]

/-- What is met is numbers of nodes, each once. -/
structure LiveL (N : Nat) (L : List Int) : Prop where
  nd : L.Nodup
  in_ : ∀ x ∈ L, 1 ≤ x ∧ x ≤ N

theorem LiveL.nil (N : Nat) : LiveL N [] := ⟨List.nodup_nil, fun x h => by cases h⟩
theorem LiveL.new {N : Nat} {L : List Int} (h : LiveL N L) {x : Int} (x1 : 1 ≤ x) (x2 : x ≤ N) (hx : x ∉ L) : LiveL N (L ++ [x]) := by
  refine ⟨List.nodup_append.2 ⟨h.nd, by simp, fun y hy z hz => ?_⟩, fun y hy => ?_⟩
  · rw [List.mem_singleton] at hz
    rintro rfl
    exact hx (hz ▸ hy)
  · rcases List.mem_append.1 hy with e | e
    · exact h.in_ y e
    · rw [List.mem_singleton] at e; subst e; exact ⟨x1, x2⟩
theorem LiveL.met {N : Nat} {L : List Int} (h : LiveL N L) {x : Int} (x0 : 0 ≤ x) (x2 : x ≤ N) : LiveL N (metL L x) := by
  unfold metL
  split
  · exact h
  · rename_i k
    exact h.new (by omega) x2 fun e => k (.inr e)
theorem LiveL.mets {N : Nat} {xs : List Int} (hx : ∀ x ∈ xs, 0 ≤ x ∧ x ≤ N) : ∀ {L : List Int}, LiveL N L → LiveL N (metsL L xs) := by
  induction xs with
  | nil => exact fun h => h
  | cons x xs ih => exact fun h => ih (fun y hy => hx y (List.mem_cons_of_mem _ hy)) (h.met (hx x List.mem_cons_self).1 (hx x List.mem_cons_self).2)
theorem nodup_few : ∀ {l m : List Int}, l.Nodup → (∀ p ∈ l, p ∈ m) → l.length ≤ m.length := by
  intro l
  induction l with
  | nil => intro m _ _; exact Nat.zero_le _
  | cons x l ih =>
    intro m hn hs
    obtain ⟨h1, h2⟩ := List.nodup_cons.1 hn
    have hm := hs x List.mem_cons_self
    have := ih (m := m.erase x) h2 fun p hp => (List.mem_erase_of_ne (by rintro rfl; exact h1 hp)).2 (hs p (List.mem_cons_of_mem _ hp))
    rw [List.length_erase_of_mem hm] at this
    have := List.length_pos_of_mem hm
    rw [List.length_cons]
    omega
theorem LiveL.few {N : Nat} {L : List Int} (h : LiveL N L) : L.length ≤ N := by
  have := nodup_few (m := (List.range N).map fun i => ((i + 1 : Nat) : Int)) h.nd fun x hx => by
    obtain ⟨x1, x2⟩ := h.in_ x hx
    exact List.mem_map.2 ⟨x.toNat - 1, List.mem_range.2 (by omega), by omega⟩
  simpa using this

/-- Node by node, from the i-th on. -/
def Gr.walkL (G : Gr) : Nat → List Int → Nat → List Int
  | 0, L, _ => L
  | f + 1, L, i => match L[i]? with
    | some x => G.walkL f (metsL L (G.node x).1) (i + 1)
    | none => L
def Gr.live (G : Gr) : List Int := G.walkL (G.ns.length + 1) (metsL [] G.hs) 0

theorem Gr.walkL_at {G : Gr} {f i : Nat} {L : List Int} {x : Int} (h : L[i]? = some x) : G.walkL (f + 1) L i = G.walkL f (metsL L (G.node x).1) (i + 1) := by
  rw [Gr.walkL, h]
theorem Gr.walkL_end {G : Gr} {f i : Nat} {L : List Int} (h : L.length ≤ i) : G.walkL f L i = L := by
  cases f with
  | zero => rfl
  | succ f => rw [Gr.walkL, List.getElem?_eq_none h]

/-- What handles hold, and nodes refer to, are numbers of nodes. -/
structure Gr.Ok (G : Gr) : Prop where
  hs : ∀ x ∈ G.hs, 0 ≤ x ∧ x ≤ G.ns.length
  ns : ∀ n ∈ G.ns, ∀ x ∈ n.1, 0 ≤ x ∧ x ≤ G.ns.length
theorem Rg.ok {w : World} {g : Nat} {S : Nat → Prop} {G : Gr} (r : Rg w g S G) : G.Ok := by
  obtain ⟨vN, hA, hc, nd, hi, e, _⟩ := r
  have hl : G.ns.length = nd.length := by rw [e, List.length_map]
  refine ⟨fun x hx => by rw [hl]; exact hi.hin x hx, fun n hn x hx => ?_⟩
  rw [e] at hn
  obtain ⟨y, hy, rfl⟩ := List.mem_map.1 hn
  rw [hl]
  exact hi.pin y hy x hx
theorem Gr.Ok.node {G : Gr} (h : G.Ok) (i : Int) : ∀ x ∈ (G.node i).1, 0 ≤ x ∧ x ≤ G.ns.length := by
  unfold Gr.node
  rw [List.getD_eq_getElem?_getD]
  cases e : G.ns[i.toNat - 1]? with
  | none => intro x hx; cases hx
  | some n => exact h.ns n (List.mem_of_getElem? e)
theorem Gr.Ok.walkL {G : Gr} (h : G.Ok) : ∀ (f : Nat) {L : List Int} (i : Nat), LiveL G.ns.length L → LiveL G.ns.length (G.walkL f L i) := by
  intro f
  induction f with
  | zero => exact fun _ k => k
  | succ f ih =>
    intro L i k
    rw [Gr.walkL]
    cases L[i]? with
    | none => exact k
    | some x => exact ih (i + 1) (k.mets (h.node x))
theorem Gr.Ok.live {G : Gr} (h : G.Ok) : LiveL G.ns.length G.live := h.walkL _ _ ((LiveL.nil _).mets h.hs)

/-- What was met, as flags: 0 always. -/
def flagL (N : Nat) (L : List Int) : List Bool := (List.range (N + 1)).map fun (j : Nat) => decide (j = 0 ∨ (j : Int) ∈ L)
theorem flagL_at {N : Nat} {L : List Int} {x : Int} (x0 : 0 ≤ x) (x2 : x ≤ N) : (flagL N L)[x.toNat]? = some (decide (x = 0 ∨ x ∈ L)) := by
  unfold flagL
  rw [List.getElem?_map, List.getElem?_range (by omega)]
  have : ((x.toNat : Nat) : Int) = x := by omega
  simp only [Option.map_some, this]
  congr 1
  rw [Bool.eq_iff_iff, decide_eq_true_eq, decide_eq_true_eq]
  exact ⟨fun e => e.imp (fun e => by omega) id, fun e => e.imp (fun e => by omega) id⟩
theorem flagL_set {N : Nat} {L : List Int} {x : Int} (x0 : 0 ≤ x) (x2 : x ≤ N) : (flagL N L).set x.toNat true = flagL N (L ++ [x]) := by
  unfold flagL
  refine List.ext_getElem? fun i => ?_
  rw [List.getElem?_map]
  by_cases e : x.toNat = i
  · subst e
    rw [List.getElem?_set_self (by simp; omega), List.getElem?_range (by omega)]
    have : ((x.toNat : Nat) : Int) = x := by omega
    simp [this]
  · rw [List.getElem?_set_ne e, List.getElem?_map]
    by_cases hi : i < N + 1
    · rw [List.getElem?_range hi]
      simp only [Option.map_some]
      congr 1
      rw [Bool.eq_iff_iff, decide_eq_true_eq, decide_eq_true_eq, List.mem_append, List.mem_singleton]
      exact ⟨fun k => k.imp id .inl, fun k => k.imp id fun k => k.resolve_right fun k => by omega⟩
    · rw [List.getElem?_eq_none (by simp; omega)]
      rfl
theorem flagL_nil (N : Nat) : (List.replicate (N + 1) false).set 0 true = flagL N [] := by
  unfold flagL
  refine List.ext_getElem? fun i => ?_
  rw [List.getElem?_map]
  by_cases e : 0 = i
  · subst e
    rw [List.getElem?_set_self (by simp), List.getElem?_range (by omega)]
    simp
  · rw [List.getElem?_set_ne e]
    by_cases hi : i < N + 1
    · rw [List.getElem?_range hi, List.getElem?_replicate, if_pos hi]
      simp
      omega
    · rw [List.getElem?_eq_none (by simp; omega), List.getElem?_eq_none (by simp; omega)]
      rfl

/-- Where a number is among others, from i + 1 on; 0: nowhere. -/
def atF : List Int → Int → Nat → Int
  | [], _, _ => 0
  | y :: ys, x, i => if y = x then (i + 1 : Nat) else atF ys x (i + 1)
abbrev atL (xs : List Int) (x : Int) : Int := atF xs x 0

theorem atF_drop {xs : List Int} {x y : Int} {j : Nat} (h : xs[j]? = some y) : atF (xs.drop j) x j = if y = x then ((j + 1 : Nat) : Int) else atF (xs.drop (j + 1)) x (j + 1) := by
  obtain ⟨hj, e⟩ := List.getElem?_eq_some_iff.1 h
  rw [List.drop_eq_getElem_cons hj, e, atF]
theorem atF_end {xs : List Int} {x : Int} {j : Nat} (h : xs.length ≤ j) : atF (xs.drop j) x j = 0 := by
  rw [List.drop_eq_nil_of_le h, atF]
theorem atF_in (xs : List Int) (x : Int) : ∀ i, 0 ≤ atF xs x i ∧ atF xs x i ≤ i + xs.length := by
  induction xs with
  | nil => intro i; rw [atF]; simp
  | cons y ys ih =>
    intro i
    rw [atF, List.length_cons]
    split
    · omega
    · have := ih (i + 1); omega

/-- What Shown tells. -/
def Gr.shown (G : Gr) : List (List Int × List Int) := G.live.map fun x => ((G.node x).1.map (atL G.live), (G.node x).2)
def Gr.heldAt (G : Gr) : List Int := G.hs.map (atL G.live)
end Go.Proofs.Ytjjjeeffllelaaa
