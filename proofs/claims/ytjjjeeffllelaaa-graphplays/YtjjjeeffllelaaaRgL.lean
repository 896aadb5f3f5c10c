
/- The document's graph: a node is made. -/
import Derived.Test.YtjjjeeffllelaaaRgG
import Derived.Test.YtjjjeeffllelaaaRgN
import Derived.Test.YtjjjeeffllelaaaMdR
import Derived.Deep.DeepCutAuto
import Derived.Deep.AppendLies
namespace Go.Proofs.Ytjjjeeffllelaaa
open Go.RowKit Go.Deep

section
variable (U : World) (g : Nat) (vN : Value) (hA : Option Addr) (hc : Nat) (nd : List Nd) (hs : List Int) (lg : Int) (m n sb : Nat)

/-- What was made so far of the node, ahead of the append. -/
structure NdA (mm : Made) (W : World) : Prop where
  no : mm 13 = none
  bel : Below U.heap.size U W
  i7 : ∀ v, mm 7 = some v → ∃ p, v = .slice (some ⟨p, 0, none⟩) m m ∧ U.heap.size ≤ p ∧ Blk W p (ints (List.replicate m 0)).toArray 3
  i10 : ∀ v, mm 10 = some v → ∃ s, v = .slice (some ⟨s, 0, none⟩) n n ∧ U.heap.size ≤ s ∧ Blk W s (wordsU (List.replicate n 0)).toArray 28
  i11 : ∀ v, mm 11 = some v → (mm 7 ≠ none ∧ mm 10 ≠ none) ∧ ∃ p s, v = .agg #[.slice (some ⟨p, 0, none⟩) m m, .slice (some ⟨s, 0, none⟩) n n] ∧ U.heap.size ≤ p ∧ U.heap.size ≤ s ∧ Blk W p (ints (List.replicate m 0)).toArray 3 ∧ Blk W s (wordsU (List.replicate n 0)).toArray 28
  i12 : ∀ v, mm 12 = some v → (mm 7 ≠ none ∧ mm 10 ≠ none) ∧ ∃ p s q, v = .slice (some ⟨q, 0, none⟩) 1 1 ∧ Mk U W g vN hA hc nd hs lg p s q m n

/-- Behind the append. -/
def NdB (mm : Made) (W : World) : Prop :=
  (mm 7 ≠ none ∧ mm 10 ≠ none ∧ mm 12 ≠ none) ∧ ∃ g' cap, mm 13 = some (.slice (some ⟨g', 0, none⟩) (nd.length + 1 + 1) cap) ∧ W.frozen? ⟨g, 0, none⟩ = false ∧ AddR U g vN hA hc nd hs lg m n (W.setCell ⟨g, 0, none⟩ (.slice (some ⟨g', 0, none⟩) (nd.length + 1 + 1) cap))

def NdG (mm : Made) (W : World) : Prop :=
  (W.cell? ⟨g, 0, none⟩ = some vN ∧ W.cell? ⟨sb, 2, none⟩ = some (.int .i64 (m : Int)) ∧ W.cell? ⟨sb, 3, none⟩ = some (.int .i64 (n : Int))) ∧ (NdA U g vN hA hc nd hs lg m n mm W ∨ NdB U g vN hA hc nd hs lg m n mm W)

def NdV : Nat → Value → Prop
  | 4, v => v = vN
  | 6, v => v = .int .i64 (m : Int)
  | 7, v => ∃ p, v = .slice (some ⟨p, 0, none⟩) m m
  | 9, v => v = .int .i64 (n : Int)
  | 10, v => ∃ s, v = .slice (some ⟨s, 0, none⟩) n n
  | 11, v => ∃ p s, v = .agg #[.slice (some ⟨p, 0, none⟩) m m, .slice (some ⟨s, 0, none⟩) n n]
  | 12, v => ∃ q, v = .slice (some ⟨q, 0, none⟩) 1 1
  | 13, v => ∃ g' cap, v = .slice (some ⟨g', 0, none⟩) (nd.length + 1 + 1) cap
  | 3, v => v = .pointer (some ⟨g, 0, none⟩)
  | 5, v => v = .pointer (some ⟨sb, 2, none⟩)
  | 8, v => v = .pointer (some ⟨sb, 3, none⟩)
  | _, v => v = .pointer (some ⟨g, 0, none⟩)
end

section
variable {U : World} {g : Nat} {vN : Value} {hA : Option Addr} {hc : Nat} {nd : List Nd} {hs : List Int} {lg : Int} {m n sb : Nat} {mm : Made} {W : World}

theorem ndV_some (k : Nat) : ∃ v, NdV g vN nd m n sb k v := by
  rcases k with _ | _ | _ | _ | _ | _ | _ | _ | _ | _ | _ | _ | _ | _ | k
  all_goals first | exact ⟨_, rfl⟩ | exact ⟨_, 0, rfl⟩ | exact ⟨_, 0, 0, rfl⟩

theorem Mk.grow {W' : World} {p s q : Nat} (h : Mk U W g vN hA hc nd hs lg p s q m n) (f : Below W.heap.size W W') : Mk U W' g vN hA hc nd hs lg p s q m n :=
  ⟨below_trans h.bel f, h.isg, h.bp.keep f, h.bs.keep f, h.bn.keep f, h.np, h.ns⟩

theorem NdA.grow {W' : World} (h : NdA U g vN hA hc nd hs lg m n mm W) (f : Below W.heap.size W W') : NdA U g vN hA hc nd hs lg m n mm W' where
  no := h.no
  bel := below_trans h.bel f
  i7 v e := by obtain ⟨p, h1, h2, h3⟩ := h.i7 v e; exact ⟨p, h1, h2, h3.keep f⟩
  i10 v e := by obtain ⟨p, h1, h2, h3⟩ := h.i10 v e; exact ⟨p, h1, h2, h3.keep f⟩
  i11 v e := by obtain ⟨h0, p, s, h1, h2, h3, h4, h5⟩ := h.i11 v e; exact ⟨h0, p, s, h1, h2, h3, h4.keep f, h5.keep f⟩
  i12 v e := by obtain ⟨h0, p, s, q, h1, h2⟩ := h.i12 v e; exact ⟨h0, p, s, q, h1, h2.grow f⟩

theorem NdG.cells (h : NdG U g vN hA hc nd hs lg m n sb mm W) {W' : World} (f : Below W.heap.size W W') :
    W'.cell? ⟨g, 0, none⟩ = some vN ∧ W'.cell? ⟨sb, 2, none⟩ = some (.int .i64 (m : Int)) ∧ W'.cell? ⟨sb, 3, none⟩ = some (.int .i64 (n : Int)) := by
  have lt : ∀ {a : Addr} {v : Value}, W.cell? a = some v → a.block < W.heap.size := fun {a v} e => by
    by_cases hb : a.block < W.heap.size
    · exact hb
    · exfalso
      unfold World.cell? at e
      rw [Array.getElem?_eq_none (by omega)] at e
      simp at e
  obtain ⟨⟨h1, h2, h3⟩, _⟩ := h
  exact ⟨(f.cell (lt h1)).trans h1, (f.cell (lt h2)).trans h2, (f.cell (lt h3)).trans h3⟩

theorem NdG.start (h : IsG U g vN hA hc nd hs lg) (h2 : U.cell? ⟨sb, 2, none⟩ = some (.int .i64 (m : Int))) (h3 : U.cell? ⟨sb, 3, none⟩ = some (.int .i64 (n : Int))) : NdG U g vN hA hc nd hs lg m n sb (fun _ => none) U :=
  ⟨⟨h.blk.cell 0, h2, h3⟩, .inl ⟨rfl, Below.refl _ _, fun v e => (by cases e), fun v e => (by cases e), fun v e => (by cases e), fun v e => (by cases e)⟩⟩

theorem NdG.pure (h : NdG U g vN hA hc nd hs lg m n sb mm W) (i : Nat) (v : Value) (hi : i ≠ 7 ∧ i ≠ 10 ∧ i ≠ 11 ∧ i ≠ 12 ∧ i ≠ 13) : NdG U g vN hA hc nd hs lg m n sb (mm.upd i v) W := by
  obtain ⟨n7, n10, n11, n12, n13⟩ := hi
  have e7 : (mm.upd i v) 7 = mm 7 := Made.upd_ne v (Ne.symm n7)
  have e10 : (mm.upd i v) 10 = mm 10 := Made.upd_ne v (Ne.symm n10)
  have e11 : (mm.upd i v) 11 = mm 11 := Made.upd_ne v (Ne.symm n11)
  have e12 : (mm.upd i v) 12 = mm 12 := Made.upd_ne v (Ne.symm n12)
  have e13 : (mm.upd i v) 13 = mm 13 := Made.upd_ne v (Ne.symm n13)
  refine ⟨h.1, h.2.imp (fun k => ⟨e13 ▸ k.no, k.bel, ?_, ?_, ?_, ?_⟩) fun k => ?_⟩
  · rw [e7]; exact k.i7
  · rw [e10]; exact k.i10
  · rw [e7, e10, e11]; exact k.i11
  · rw [e7, e10, e12]; exact k.i12
  · unfold NdB at *
    rw [e7, e10, e12, e13]
    exact k

/-- What an operation makes that the node consists of: only ahead of the append. -/
theorem NdG.ahead (h : NdG U g vN hA hc nd hs lg m n sb mm W) (h0 : mm 7 = none ∨ mm 10 = none ∨ mm 12 = none ∨ mm 13 = none) : NdA U g vN hA hc nd hs lg m n mm W := by
  rcases h.2 with k | ⟨⟨k7, k10, k12⟩, g', cap, k13, _⟩
  · exact k
  · rcases h0 with e | e | e | e
    · exact absurd e k7
    · exact absurd e k10
    · exact absurd e k12
    · rw [e] at k13; cases k13

theorem NdG.make7 (h : NdG U g vN hA hc nd hs lg m n sb mm W) (h0 : mm 7 = none) : NdG U g vN hA hc nd hs lg m n sb (mm.upd 7 (.slice (some ⟨W.heap.size, 0, none⟩) m m)) (W.alloc (bxI m)) := by
  have k := h.ahead (.inl h0)
  have f : Below W.heap.size W (W.alloc (bxI m)) := (Below.refl _ _).alloc (Nat.le_refl _) _
  have q := k.grow f
  refine ⟨h.cells f, .inl ⟨k.no, q.bel, fun v e => ?_, q.i10, fun v e => ?_, fun v e => ?_⟩⟩
  · have e1 : some (Value.slice (some ⟨W.heap.size, 0, none⟩) m m) = some v := e
    cases e1
    exact ⟨_, rfl, k.bel.size, Blk.new W _ _⟩
  · exact absurd h0 (k.i11 v e).1.1
  · exact absurd h0 (k.i12 v e).1.1

theorem NdG.make10 (h : NdG U g vN hA hc nd hs lg m n sb mm W) (h0 : mm 10 = none) : NdG U g vN hA hc nd hs lg m n sb (mm.upd 10 (.slice (some ⟨W.heap.size, 0, none⟩) n n)) (W.alloc (bxU n)) := by
  have k := h.ahead (.inr (.inl h0))
  have f : Below W.heap.size W (W.alloc (bxU n)) := (Below.refl _ _).alloc (Nat.le_refl _) _
  have q := k.grow f
  refine ⟨h.cells f, .inl ⟨k.no, q.bel, q.i7, fun v e => ?_, fun v e => ?_, fun v e => ?_⟩⟩
  · have e1 : some (Value.slice (some ⟨W.heap.size, 0, none⟩) n n) = some v := e
    cases e1
    exact ⟨_, rfl, k.bel.size, Blk.new W _ _⟩
  · exact absurd h0 (k.i11 v e).1.2
  · exact absurd h0 (k.i12 v e).1.2

theorem NdG.make11 {p s : Nat} (h : NdG U g vN hA hc nd hs lg m n sb mm W) (h7 : mm 7 = some (.slice (some ⟨p, 0, none⟩) m m)) (h10 : mm 10 = some (.slice (some ⟨s, 0, none⟩) n n)) :
    NdG U g vN hA hc nd hs lg m n sb (mm.upd 11 (.agg #[.slice (some ⟨p, 0, none⟩) m m, .slice (some ⟨s, 0, none⟩) n n])) W := by
  refine ⟨h.1, h.2.imp (fun k => ⟨k.no, k.bel, k.i7, k.i10, fun v e => ?_, k.i12⟩) fun k => k⟩
  have e1 : some (Value.agg #[.slice (some ⟨p, 0, none⟩) m m, .slice (some ⟨s, 0, none⟩) n n]) = some v := e
  cases e1
  obtain ⟨p', e7, hp, bp⟩ := k.i7 _ h7
  obtain ⟨s', e10, hs', bs⟩ := k.i10 _ h10
  cases e7
  cases e10
  exact ⟨⟨by show mm 7 ≠ none; rw [h7]; simp, by show mm 10 ≠ none; rw [h10]; simp⟩, p, s, rfl, hp, hs', bp, bs⟩

theorem NdG.make12 {p s : Nat} (hI : IsG U g vN hA hc nd hs lg) (h : NdG U g vN hA hc nd hs lg m n sb mm W) (h11 : mm 11 = some (.agg #[.slice (some ⟨p, 0, none⟩) m m, .slice (some ⟨s, 0, none⟩) n n])) (h0 : mm 12 = none) :
    NdG U g vN hA hc nd hs lg m n sb (mm.upd 12 (.slice (some ⟨W.heap.size, 0, none⟩) 1 1)) (W.alloc (bxN p s m n)) := by
  have k := h.ahead (.inr (.inr (.inl h0)))
  have f : Below W.heap.size W (W.alloc (bxN p s m n)) := (Below.refl _ _).alloc (Nat.le_refl _) _
  have q := k.grow f
  refine ⟨h.cells f, .inl ⟨k.no, q.bel, q.i7, q.i10, q.i11, fun v e => ?_⟩⟩
  have e1 : some (Value.slice (some ⟨W.heap.size, 0, none⟩) 1 1) = some v := e
  cases e1
  obtain ⟨h710, p', s', e11, hp, hs', bp, bs⟩ := q.i11 _ h11
  cases e11
  exact ⟨h710, p, s, W.heap.size, rfl, q.bel, hI, bp, bs, Blk.new W _ _, hp, hs'⟩

theorem NdG.make13 {cs : Array Value} {q : Nat} (h : NdG U g vN hA hc nd hs lg m n sb mm W) (hm : m ≤ 64) (hn : n ≤ 64) (few : nd.length < 1048576) (h12 : mm 12 = some (.slice (some ⟨q, 0, none⟩) 1 1)) (h0 : mm 13 = none) (hB : Blk U sb cs 33) (c2 : cs[2]? = some (.int .i64 (m : Int))) (c3 : cs[3]? = some (.int .i64 (n : Int))) :
    ∃ p s, Mk U W g vN hA hc nd hs lg p s q m n ∧ ∀ (g' cap : Nat) (w1 : World) (_ : w1.ownsRow 0 45 2 (.slice (some ⟨g', 0, none⟩) (nd.length + 1 + 1) cap) (nd.length + 1 + 1) (ndV nd ++ [Value.slice (some ⟨p, 0, none⟩) m m, .slice (some ⟨s, 0, none⟩) n n])) (_ : W.grownBy w1 vN.ownBlock) (_ : vN.ownBlock = some g' ∨ g' = W.heap.size),
      NdG U g vN hA hc nd hs lg m n sb (mm.upd 13 (.slice (some ⟨g', 0, none⟩) (nd.length + 1 + 1) cap)) w1 := by
  have k := h.ahead (.inr (.inr (.inr h0)))
  obtain ⟨⟨n7, n10⟩, p, s, q', e12, K⟩ := k.i12 _ h12
  cases e12
  refine ⟨p, s, K, fun g' cap w1 own gr hat => ?_⟩
  obtain ⟨x3, xf⟩ := K.cells gr
  have kb := K.box gr hB (by decide)
  obtain ⟨x, hx⟩ := K.done hm hn few own gr hat rfl
  exact ⟨⟨x3, (kb.cell 2).trans c2, (kb.cell 3).trans c3⟩, .inr ⟨⟨n7, n10, by show mm 12 ≠ none; rw [h12]; simp⟩, g', cap, rfl, xf, g', cap, x, hx⟩⟩

theorem made_append {P : Program} {w : World} {o : Oper} {a : Act} {V : Value → Prop} {T : Value → World → Prop} (s x : Operand) (t : TypeId) (ho : o.op = .call { callee := .builtin .append, args := #[s, x], argTypes := #[t, t] })
    (e : TypeId) (i : TypeInfo) (z : Value) (size bytes : Nat) (ht : P.underlying t = some (.slice e)) (hi : P.info? e = some i) (hz : i.zero = some z) (hsize : i.size = size) (hby : i.bytes = bytes) (hzs : z.cells.size = size) (hsz : 0 < size)
    (v : Value) (k : Nat) (xs : List Value) (hs : a.eval s = v) (hown : w.ownsRow 0 e size v k xs) (ad : Addr) (c : Nat) (news : List Value) (hx : a.eval x = .slice (some ad) 1 c) (hl : news.length = 1 * size)
    (hnews : ∀ j u, news[j]? = some u → w.cell? (ad.add j) = some u) (h1 : ∀ u ∈ news, u.oneCell' = true) (h63 : k + 1 ≤ maxLen) (hbytes : (k + 1) * bytes ≤ 140737488355328)
    (h : ∀ g cap w', w'.ownsRow 0 e size (.slice (some ⟨g, 0, none⟩) (k + 1) cap) (k + 1) (xs ++ news) → w.grownBy w' v.ownBlock → (v.ownBlock = some g ∨ g = w.heap.size) → V (.slice (some ⟨g, 0, none⟩) (k + 1) cap) ∧ T (.slice (some ⟨g, 0, none⟩) (k + 1) cap) w') :
    madeUpon P V T ((execOp a.eval o).run P w) := by
  obtain ⟨g, cap, w', hr, h2, h3, h4, _⟩ := run_append_lies (P := P) w t o.type 0 e i z size bytes ht hi hz hsize hby hzs hsz v k xs hown ad 1 c news hl hnews h1 (by omega) h63 hbytes (Nat.zero_le _) w.heap.size rfl
  unfold execOp
  simp only [ho, resolve, invoke, builtin, Sem.run_bind, Sem.run_pure, Result.andThen_ok, List.map_toArray, List.map_cons, List.map_nil, hs, hx, hr]
  exact h g cap w' h2 h3 h4

theorem NdG.end_ {v : Value} (h : NdG U g vN hA hc nd hs lg m n sb mm W) (h13 : mm 13 = some v) :
    ∃ g' cap, v = .slice (some ⟨g', 0, none⟩) (nd.length + 1 + 1) cap ∧ W.cell? ⟨g, 0, none⟩ = some vN ∧ W.frozen? ⟨g, 0, none⟩ = false ∧ AddR U g vN hA hc nd hs lg m n (W.setCell ⟨g, 0, none⟩ (.slice (some ⟨g', 0, none⟩) (nd.length + 1 + 1) cap)) := by
  rcases h.2 with k | ⟨_, g', cap, k13, hf, hr⟩
  · rw [k.no] at h13; cases h13
  · rw [k13] at h13
    cases h13
    exact ⟨g', cap, rfl, h.1.1, hf, hr⟩
end

attribute [local go_sem] madeUpon

section
variable (w : World) (g : Nat) (S : Nat → Prop) (G : Gr) (a b c v : Int)

set_option maxRecDepth 100000 in
set_option maxHeartbeats 16000000 in
theorem rgMake_yes (r : Rg w g S G) (hh : G.has a = true) (hb0 : 0 ≤ b) (hc0 : 0 ≤ c) (hb1 : b ≤ G.lg) (hc1 : c ≤ G.lg - b) (few : G.ns.length < 1048576) :
    Calls Try.prog 30 #[.pointer (some ⟨g, 0, none⟩), sgV 1 a b c v] w fun e w' => ChR w g S G 1 a b c v e w' := by
  have al : Below w.heap.size w (w.alloc (stB 1 a b c v)) := (Below.refl _ _).alloc (Nat.le_refl _) _
  have HH := Lib.hid (rgHas_any _ g S G a (r.keep al))
  rw [hh] at HH
  obtain ⟨i, x, rfl, hl, hx, hv, x0, x1⟩ := r.at_ hh
  obtain ⟨m, rfl⟩ : ∃ m : Nat, b = m := ⟨b.toNat, by omega⟩
  obtain ⟨n, rfl⟩ : ∃ n : Nat, c = n := ⟨c.toNat, by omega⟩
  obtain ⟨vN, hA, hc, nd, hi, eN, rfl⟩ := r
  have nl : G.ns.length = nd.length := by rw [eN, List.length_map]
  have ec : G.change 1 i m n v = (0, { G with ns := G.ns ++ [(List.replicate m 0, List.replicate n 0)], hs := G.hs.set i (nd.length + 1) }) := by
    unfold Gr.change
    rw [if_pos rfl, if_pos hh, if_neg (by omega), nl, Int.toNat_natCast, Int.toNat_natCast, Int.toNat_natCast]
  have HK := Lib.hid (hi.keep al)
  have l1 := hi.lg1
  have m64 : m ≤ 64 := by omega
  have n64 : n ≤ 64 := by omega
  have fewn : nd.length < 1048576 := by omega
  have HA := Lib.hid (And.intro al (And.intro ec (And.intro eN hx)))
  have hf := hi.hfew
  have kb := Blk.new w #[.int .i64 1, .int .i64 i, .int .i64 m, .int .i64 n, .int .u64 v] 33
  have HB := Lib.hid kb
  obtain ⟨c0, c1, c2, cf⟩ := HK.out.four
  have s1 := kb.cell 1
  have s2 := kb.cell 2
  have s3 := kb.cell 3
  have d1 : decide ((m : Int) < 0) = false := decide_eq_false (by omega)
  have d2 : decide ((n : Int) < 0) = false := decide_eq_false (by omega)
  have d3 : decide (G.lg < (m : Int)) = false := decide_eq_false (by omega)
  have d3' : decide ((m : Int) > G.lg) = false := decide_eq_false (by omega)
  have d4 : decide (G.lg - (m : Int) < (n : Int)) = false := decide_eq_false (by omega)
  have d4' : decide ((n : Int) > G.lg - (m : Int)) = false := decide_eq_false (by omega)
  have wl : IntKind.i64.wrap (G.lg - (m : Int)) = G.lg - (m : Int) := IntWalk.i64_in _ (by have := hi.lg0; omega)
  clear hi eN hx hv x0 x1 nl ec kb al hh few
  go_enter Try.func30, Try.ntmps30
  go_wp2_with fail
  refine HH.out.mono ?_
  rintro e w1 ⟨rfl, rfl⟩
  clear HH
  go_wp2_with fail
  go_big_quiet (fail)
  go_wp2_with fail
  clear c0 c1 c2 cf s1 s2 s3 d1 d2 d3 d3' d4 d4' wl
  have b9 := Lib.hid (below_drewN (w.alloc (stB 1 i m n v)) nq)
  have HG := Lib.hid (HK.out.keep b9.out)
  have HS := Lib.hid (HB.out.keep b9.out)
  have HL := Lib.hid (below_trans HA.out.1 b9.out)
  clear HK HB b9
  generalize (w.alloc (stB 1 i m n v)).drewN nq = U at HG HS HL ⊢
  generalize w.heap.size = sbk at HS ⊢
  go_cut [0] (fun s wc => s = .pointer (some ⟨g, 0, none⟩) ∧ Hid (AddR U g vN hA hc nd G.hs G.lg m n wc))
  case first =>

    as_aux_lemma =>
    have hI : Hid (IsG U.drew g vN hA hc nd G.hs G.lg) := Lib.hid (HG.out.keep (below_drew U))
    have HB2 := Lib.hid (HS.out.drew)
    have hmI := rgMakeI m m64
    have hmU := rgMakeU n n64
    obtain ⟨i0, hi0, hz, hs0, hby⟩ := info_parts info_node
    have HI0 := Lib.hid (And.intro hi0 (And.intro hz (And.intro hs0 hby)))
    have LW := Lib.hid (show nd.length + 1 + 1 ≤ maxLen from by unfold maxLen; omega)
    have M6 := Lib.hid (And.intro m64 (And.intro n64 fewn))
    have GO := Lib.hid (NdG.start (sb := sbk) (m := m) (n := n) hI.out (HB2.out.cell 2) (HB2.out.cell 3))
    clear hi0 hz hs0 hby
    clear hl hf l1 fewn hb0 hb1 hc0 hc1 HL HA
    go_wp2
    refine region_made_tailR (NdG U.drew g vN hA hc nd G.hs G.lg m n sbk) (NdV g vN nd m n sbk) 14 (by kernel_rfl) (by kernel_rfl) (by kernel_rfl) (ndV_some) GO.out ?_
    simp only [List.take_succ_cons, List.take_zero, List.drop_succ_cons, List.drop_zero]

    refine wpMadeR_step ?_ ?_
    · intro m' w' hg hag
      go_simp
      exact ⟨rfl, hg.pure _ _ (by decide)⟩
    intro K hK
    rintro _ rfl
    go_simp
    refine hK _ _ ?_
    clear hK K
    refine wpMadeR_step ?_ ?_
    · intro m' w' hg hag
      go_simp
      exact ⟨rfl, hg.pure _ _ (by decide)⟩
    intro K hK
    rintro _ rfl
    go_simp
    refine hK _ _ ?_
    clear hK K
    refine wpMadeR_step ?_ ?_
    · intro m' w' hg hag
      go_simp
      exact ⟨rfl, hg.pure _ _ (by decide)⟩
    intro K hK
    rintro _ rfl
    go_simp
    refine hK _ _ ?_
    clear hK K
    refine wpMadeR_step ?_ ?_
    · intro m' w' hg hag
      go_simp
      exact ⟨rfl, hg.pure _ _ (by decide)⟩
    intro K hK
    rintro _ rfl
    go_simp
    refine hK _ _ ?_
    clear hK K
    refine wpMadeR_step ?_ ?_
    · intro m' w' hg hag
      obtain ⟨q1, q2, q3⟩ := hg.1
      go_simp
      exact ⟨rfl, hg.pure _ _ (by decide)⟩
    intro K hK
    rintro _ rfl
    go_simp
    refine hK _ _ ?_
    clear hK K
    refine wpMadeR_step ?_ ?_
    · intro m' w' hg hag
      go_simp
      exact ⟨rfl, hg.pure _ _ (by decide)⟩
    intro K hK
    rintro _ rfl
    go_simp
    refine hK _ _ ?_
    clear hK K
    refine wpMadeR_step ?_ ?_
    · intro m' w' hg hag
      obtain ⟨q1, q2, q3⟩ := hg.1
      go_simp
      exact ⟨rfl, hg.pure _ _ (by decide)⟩
    intro K hK
    rintro _ rfl
    go_simp
    refine hK _ _ ?_
    clear hK K
    refine wpMadeR_step ?_ ?_
    · intro m' w' hg hag
      have h0 : m' 7 = none := hag 7 (.inl rfl)
      go_simp
      exact ⟨⟨_, rfl⟩, hg.make7 h0⟩
    intro K hK
    rintro _ ⟨k7, rfl⟩
    go_simp
    refine hK _ _ ?_
    clear hK K
    refine wpMadeR_step ?_ ?_
    · intro m' w' hg hag
      go_simp
      exact ⟨rfl, hg.pure _ _ (by decide)⟩
    intro K hK
    rintro _ rfl
    go_simp
    refine hK _ _ ?_
    clear hK K
    refine wpMadeR_step ?_ ?_
    · intro m' w' hg hag
      obtain ⟨q1, q2, q3⟩ := hg.1
      go_simp
      exact ⟨rfl, hg.pure _ _ (by decide)⟩
    intro K hK
    rintro _ rfl
    go_simp
    refine hK _ _ ?_
    clear hK K
    refine wpMadeR_step ?_ ?_
    · intro m' w' hg hag
      have h0 : m' 10 = none := hag 10 (.inl rfl)
      go_simp
      exact ⟨⟨_, rfl⟩, hg.make10 h0⟩
    intro K hK
    rintro _ ⟨k10, rfl⟩
    go_simp
    refine hK _ _ ?_
    clear hK K
    refine wpMadeR_step ?_ ?_
    · intro m' w' hg hag
      have h7 : m' 7 = some (.slice (some ⟨k7, 0, none⟩) m m) := hag 7 (.inr ⟨⟨7, .data⟩, by simp, by rfl, rfl⟩)
      have h10 : m' 10 = some (.slice (some ⟨k10, 0, none⟩) n n) := hag 10 (.inr ⟨⟨10, .data⟩, by simp, by rfl, rfl⟩)
      go_simp
      exact ⟨⟨_, _, rfl⟩, hg.make11 h7 h10⟩
    intro K hK
    rintro _ ⟨p11, s11, rfl⟩
    go_simp
    refine hK _ _ ?_
    clear hK K
    refine wpMadeR_step ?_ ?_
    · intro m' w' hg hag
      have h11 : m' 11 = some (.agg #[.slice (some ⟨p11, 0, none⟩) m m, .slice (some ⟨s11, 0, none⟩) n n]) := hag 11 (.inr ⟨⟨11, .data⟩, by simp, by rfl, rfl⟩)
      have h0 : m' 12 = none := hag 12 (.inl rfl)
      go_simp
      exact ⟨⟨_, rfl⟩, hg.make12 hI.out h11 h0⟩
    intro K hK
    rintro _ ⟨k12, rfl⟩
    go_simp
    refine hK _ _ ?_
    clear hK K
    refine wpMadeR_step ?_ ?_
    · intro m' w' hg hag
      have h12 : m' 12 = some (.slice (some ⟨k12, 0, none⟩) 1 1) := hag 12 (.inr ⟨⟨12, .data⟩, by simp, by rfl, rfl⟩)
      have h0 : m' 13 = none := hag 13 (.inl rfl)
      obtain ⟨p, s, MK, ME⟩ := hg.make13 M6.out.1 M6.out.2.1 M6.out.2.2 h12 h0 HB2.out rfl rfl
      have M9 := M6.out.2.2
      refine made_append _ _ _ (by rfl) 45 i0 _ 2 48 Try.underlying35 HI0.out.1 HI0.out.2.1 HI0.out.2.2.1 HI0.out.2.2.2 rfl (by omega) _ (nd.length + 1) (ndV nd) (by rfl) MK.row ⟨k12, 0, none⟩ 1 _ (by rfl) (by rfl) MK.news (by intro u hu; simp at hu; rcases hu with rfl | rfl <;> rfl) LW.out (by omega) ?_
      intro g' cap w1 own gr hat
      exact ⟨⟨g', cap, rfl⟩, ME g' cap w1 own gr hat⟩
    intro K hK
    rintro _ ⟨g13, c13, rfl⟩
    go_simp
    refine hK _ _ ?_
    clear hK K
    refine wpMadeR_nil ?_
    intro w' hg
    obtain ⟨g', cap, ev, c0, cf, ad⟩ := hg.end_ rfl
    cases ev
    have MD : Hid (AddR U g _ hA hc nd G.hs G.lg m n (w'.setCell ⟨g, 0, none⟩ (.slice (some ⟨g13, 0, none⟩) (nd.length + 1 + 1) c13))) := Lib.hid (by obtain ⟨a1, a2, a3, a4, a5, a6⟩ := ad; exact ⟨a1, a2, a3, a4, a5, Mv.pre (below_drew U) a6⟩)
    clear ad hg hmI hmU HI0 LW M6 GO HB2 hI HG HS m64 n64
    go_wp2
    go_meet
    case rel => exact ⟨rfl, MD⟩
  case rest =>
    obtain ⟨rfl, MD⟩ := hcut
    obtain ⟨g', cap, x, hx, hg2, mv⟩ := MD.out
    have HS2 := Lib.hid (HS.out.frm mv.frm (HG.out.far_ HS.out (by decide) (by decide) (by decide) (by decide)))
    obtain ⟨c0, c1, c2, cf⟩ := hg2.four
    obtain ⟨q, off, rfl, lq, hcx, hfz⟩ := hg2.hrow.at_ (by omega)
    have cx := hcx i _ HA.out.2.2.2
    obtain ⟨K, hK⟩ : ∃ K, nd.length + 1 + 1 = K := ⟨_, rfl⟩
    have wk : IntKind.i64.wrap ((K : Int) - 1) = (nd.length : Int) + 1 := by rw [IntWalk.i64_in _ (by omega)]; omega
    have HE := Lib.hid (fun (w' : World) (f : Below wc.heap.size wc w') => (show ChR w g (gOwn g vN (some ⟨q, off, none⟩) nd) G 1 i m n v (.returned (.int .i64 0)) (w'.setCell ⟨q, off + i, none⟩ (.int .i64 ((nd.length : Int) + 1))) from by
      obtain ⟨h1, m1⟩ := (hg2.keep f).hold i ((nd.length : Int) + 1) (by omega) (by simp)
      unfold ChR
      rw [HA.out.2.1]
      refine ⟨rfl, _, ⟨_, _, hc, _, h1, ?_, rfl⟩, Mv.pre HL.out ((mv.post f).trans m1)⟩
      rw [List.map_append, ← HA.out.2.2.1]
      simp [hx]))
    rw [hK] at c0
    have s1 := HS2.out.cell 1
    have ls := HS2.out.lt
    have lg0 := hg2.blk.lt
    have hf2 : G.hs.length ≤ 64 := hf
    generalize G.hs.length = hn at c1 hl hf2
    clear hg2 mv hx MD HG HS HS2 HL HA hcx hf c2 hK
    go_wp2_with fail
    go_region
    go_wp2
    go_ret
    exact HE.out _ (below_drew _)
end
end Go.Proofs.Ytjjjeeffllelaaa
