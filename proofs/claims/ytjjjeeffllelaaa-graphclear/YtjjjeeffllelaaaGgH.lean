/- A map from the program's nodes to numbers, as met fills it: the entries in the order in which they came, that of no node ahead. -/
import Derived.Test.YtjjjeeffllelaaaGgG
import Derived.Test.YtjjjeeffllelaaaRhA
import Derived.Maps.OwnOps
import Derived.MapKept
namespace Go.Proofs.Ytjjjeeffllelaaa
open Go.RowKit Go.Maps Go.ChangeMaps

/-- The entries from number s on. -/
def mE (bl : List Nat) : List Int → Nat → List MapEntry
  | [], _ => []
  | x :: xs, s => ⟨ptV bl x, .int .i64 (s : Int), s⟩ :: mE bl xs (s + 1)
theorem mE_snoc (bl : List Nat) (xs : List Int) (x : Int) : ∀ s, mE bl (xs ++ [x]) s = mE bl xs s ++ [⟨ptV bl x, .int .i64 ((s + xs.length : Nat) : Int), s + xs.length⟩] := by
  induction xs with
  | nil => intro s; rfl
  | cons y ys ih =>
    intro s
    rw [List.cons_append, mE, mE, ih, List.cons_append, List.length_cons, show s + 1 + ys.length = s + (ys.length + 1) by omega]

/-- Where x stands. -/
def posF : List Int → Int → Nat → Option Nat
  | [], _, _ => none
  | y :: ys, x, s => if x = y then some s else posF ys x (s + 1)
theorem posF_at (xs : List Int) (x : Int) : ∀ s, (posF xs x (s + 1) = none ∧ x ∉ xs ∧ atF xs x s = 0) ∨ ∃ p : Nat, posF xs x (s + 1) = some p ∧ x ∈ xs ∧ atF xs x s = p := by
  induction xs with
  | nil => intro s; exact .inl ⟨rfl, by simp, rfl⟩
  | cons y ys ih =>
    intro s
    rw [posF, atF]
    by_cases e : x = y
    · subst e
      exact .inr ⟨s + 1, by rw [if_pos rfl], List.mem_cons_self, by rw [if_pos rfl]⟩
    · rw [if_neg e, if_neg (Ne.symm e)]
      rcases ih (s + 1) with ⟨h1, h2, h3⟩ | ⟨p, h1, h2, h3⟩
      · exact .inl ⟨h1, by rw [List.mem_cons]; exact fun k => k.elim e h2, h3⟩
      · exact .inr ⟨p, h1, List.mem_cons_of_mem _ h2, h3⟩

/-- Block mb is such a map, of what was met so far. -/
def PtM (w : World) (mb : Nat) (bl : List Nat) (L : List Int) : Prop := w.heap[mb]? = some (.map (mE bl (0 :: L) 0).toArray (L.length + 1))

theorem PtM.frm {S : Nat → Prop} {w w' : World} {mb : Nat} {bl : List Nat} {L : List Int} (h : PtM w mb bl L) (f : Frm S w w') (hb : ¬ S mb) : PtM w' mb bl L := by
  have hl : mb < w.heap.size := (Array.getElem?_eq_some_iff.1 h).1
  exact (f.block mb hl hb).trans h
theorem PtM.lt {w : World} {mb : Nat} {bl : List Nat} {L : List Int} (h : PtM w mb bl L) : mb < w.heap.size := (Array.getElem?_eq_some_iff.1 h).1
theorem PtM.keep {w w' : World} {mb : Nat} {bl : List Nat} {L : List Int} (h : PtM w mb bl L) (f : Below w.heap.size w w') : PtM w' mb bl L := h.frm (S := fun _ => False) (Frm.of_below f) fun e => e
theorem PtM.ne {w : World} {mb b : Nat} {bl : List Nat} {L : List Int} (h : PtM w mb bl L) {cs : Array Value} {t : TypeId} (hb : Blk w b cs t) : b ≠ mb := by
  rintro rfl
  unfold PtM at h
  unfold Blk at hb
  rw [hb] at h
  cases h

section
variable {W : World} {g hb : Nat} {nd : List Pd} {hs : List Int} {lg : Int}

/-- The model's own comparison of two keys. -/
theorem IsP.eqK (h : IsP W g hb nd hs lg) {x y : Int} (hx : 0 ≤ x ∧ x ≤ nd.length) (hy : 0 ≤ y ∧ y ≤ nd.length) :
    (Op.equal 66 (ptV (bls nd) x) (ptV (bls nd) y)).run Try.prog W = .ok (x == y) W := by
  obtain ⟨j, hj, hz⟩ := info_nod
  have hp := Try.underlying66
  have at_ : ∀ {z : Int}, 0 ≤ z ∧ z ≤ nd.length → z ≠ 0 → ∃ (k : Nat) (p : Pd), z = ((k + 1 : Nat) : Int) ∧ nd[k]? = some p := fun {z} hz nz => by
    refine ⟨z.toNat - 1, nd[z.toNat - 1]'(by omega), by omega, List.getElem?_eq_getElem (by omega)⟩
  unfold Op.equal Op.maxDepth
  by_cases x0 : x = 0
  · subst x0
    by_cases y0 : y = 0
    · subst y0
      have hh : ∀ d : Nat, (Op.equalIn (d + 1) 66 (.pointer none) (.pointer none)).run Try.prog W = .ok true W := fun d => by simp [Op.equalIn, run_underlying hp]
      rw [ptV_zero, hh 9999]
      rfl
    · obtain ⟨k, p, rfl, hk⟩ := at_ hy y0
      have hh : ∀ d : Nat, (Op.equalIn (d + 1) 66 (.pointer none) (.pointer (some ⟨p.nb, 0, none⟩))).run Try.prog W = .ok false W := fun d => by simp [Op.equalIn, run_underlying hp]
      rw [ptV_at hk, ptV_zero, show ((0 : Int) == ((k + 1 : Nat) : Int)) = false by simp; omega, hh 9999]
  · obtain ⟨k, p, rfl, hk⟩ := at_ hx x0
    by_cases y0 : y = 0
    · subst y0
      have hh : ∀ d : Nat, (Op.equalIn (d + 1) 66 (.pointer (some ⟨p.nb, 0, none⟩)) (.pointer none)).run Try.prog W = .ok false W := fun d => by simp [Op.equalIn, run_underlying hp]
      rw [ptV_at hk, ptV_zero, show (((k + 1 : Nat) : Int) == (0 : Int)) = false by simp; omega, hh 9999]
    · obtain ⟨m, q, rfl, hm⟩ := at_ hy y0
      rw [ptV_at hk, ptV_at hm]
      by_cases e : k = m
      · subst e
        rw [hk] at hm
        cases hm
        have hh : ∀ d : Nat, (Op.equalIn (d + 1) 66 (.pointer (some ⟨p.nb, 0, none⟩)) (.pointer (some ⟨p.nb, 0, none⟩))).run Try.prog W = .ok true W := fun d => by
          simp [Op.equalIn, run_underlying hp, sizeOf, typeInfo, hj, run_sameAddr_same]
        rw [hh 9999]
        simp
      · have hh : ∀ d : Nat, (Op.equalIn (d + 1) 66 (.pointer (some ⟨p.nb, 0, none⟩)) (.pointer (some ⟨q.nb, 0, none⟩))).run Try.prog W = .ok false W := fun d => by
          simp [Op.equalIn, run_underlying hp, sizeOf, typeInfo, hj, hz, run_sameAddr_other (a := ⟨p.nb, 0, none⟩) (b := ⟨q.nb, 0, none⟩) W (fun z => (otherP_blk hm h.nap hk (Ne.symm e)).1 (by injection z)) (h.box p (List.mem_of_getElem? hk)) (h.box q (List.mem_of_getElem? hm))]
        rw [hh 9999, show ((((k + 1 : Nat) : Int)) == ((m + 1 : Nat) : Int)) = false by simp; omega]

theorem IsP.find_ (h : IsP W g hb nd hs lg) {x : Int} (hx : 0 ≤ x ∧ x ≤ nd.length) : ∀ (xs : List Int) (s : Nat), (∀ y ∈ xs, 0 ≤ y ∧ y ≤ nd.length) →
    (Instr.findAsking 66 (ptV (bls nd) x) (mE (bls nd) xs s) s).run Try.prog W = .ok ((posF xs x s).map fun p => (p, Value.int .i64 (p : Int))) W := by
  intro xs
  induction xs with
  | nil => intro s _; rfl
  | cons y ys ih =>
    intro s hin
    have e := h.eqK hx (hin y List.mem_cons_self)
    rw [mE, posF]
    unfold Instr.findAsking
    rw [Sem.run_bind, e, Result.andThen_ok]
    by_cases k : x = y
    · subst k
      simp
    · have : (x == y) = false := by simpa using k
      rw [this, if_neg k]
      exact ih (s + 1) fun z hz => hin z (List.mem_cons_of_mem _ hz)

theorem chk_pt (x : Option Addr) (em : Bool) (w : World) : (Instr.checkKey em 10000 66 (.pointer x)).run Try.prog w = .ok () w := by
  have hp := Try.underlying66
  unfold Instr.checkKey
  simp [run_underlying hp]

theorem fnd_pt {w : World} {x : Option Addr} {es : List MapEntry} {r : Option (Nat × Value)} (ne : es ≠ []) (h : (Instr.findAsking 66 (.pointer x) es 0).run Try.prog w = .ok r w) :
    (Instr.findKey 66 (.pointer x) es).run Try.prog w = .ok r w := by
  have hp := Try.underlying66
  unfold Instr.findKey
  rw [Sem.run_bind, run_underlying hp, Result.andThen_ok]
  cases es with
  | nil => exact absurd rfl ne
  | cons e es =>
    have : Instr.findNow (.pointer 68) (.pointer x) (e :: es) 0 = none := by
      unfold Instr.findNow
      rfl
    rw [this]
    exact h

/-- A look-up. -/
theorem IsP.look (h : IsP W g hb nd hs lg) {mb : Nat} {L : List Int} (hm : PtM W mb (bls nd) L) (hL : LiveL nd.length L) {x : Int} (hx : 0 ≤ x ∧ x ≤ nd.length) (c : Bool) :
    (Instr.lookup 63 (.map (some mb)) (ptV (bls nd) x) c).run Try.prog W = .ok (if c then .tuple #[.int .i64 (atL L x), .bool (decide (x = 0 ∨ x ∈ L))] else .int .i64 (atL L x)) W := by
  have hin : ∀ y ∈ (0 :: L), 0 ≤ y ∧ y ≤ nd.length := fun y hy => by
    rcases List.mem_cons.1 hy with rfl | hy
    · omega
    · have := hL.in_ y hy; omega
  have hf := fnd_pt (w := W) (x := ptA (bls nd) x) (es := mE (bls nd) (0 :: L) 0) (by rw [mE]; simp) (h.find_ hx (0 :: L) 0 hin)
  have z0 : (0 : Int) ∉ L := fun e => by have := hL.in_ 0 e; omega
  have ht := Try.underlying63
  have hz : (zeroValue 3).run Try.prog W = .ok (.int .i64 0) W := by kernel_rfl
  have hc := chk_pt (ptA (bls nd) x) false W
  have he : (mE (bls nd) (0 :: L) 0).toArray.isEmpty = false := by rw [mE]; rfl
  unfold Instr.lookup
  unfold ptV at hf ⊢
  rw [posF] at hf
  by_cases e : x = 0
  · subst e
    rw [if_pos rfl] at hf
    have ea : atL L 0 = 0 := by
      rcases posF_at L 0 0 with ⟨_, _, k⟩ | ⟨p, _, k, _⟩
      · exact k
      · exact absurd k z0
    rw [ea, decide_eq_true (Or.inl rfl)]
    simp [run_underlying ht, MapKept.run_getObj_map hm, he, hc, hf, Result.andThen]
  · rw [if_neg e] at hf
    rcases posF_at L x 0 with ⟨k1, k2, k3⟩ | ⟨p, k1, k2, k3⟩
    · rw [Nat.zero_add] at k1 hf
      rw [k1] at hf
      rw [show atL L x = 0 from k3, decide_eq_false (fun k => k.elim e k2)]
      simp [run_underlying ht, MapKept.run_getObj_map hm, he, hc, hf, hz, Result.andThen]
    · rw [Nat.zero_add] at k1 hf
      rw [k1] at hf
      rw [show atL L x = p from k3, decide_eq_true (Or.inr k2)]
      simp [run_underlying ht, MapKept.run_getObj_map hm, he, hc, hf, Result.andThen]

/-- A new node is told its number. -/
theorem IsP.put (h : IsP W g hb nd hs lg) {mb : Nat} {L : List Int} (hm : PtM W mb (bls nd) L) (hL : LiveL nd.length L) {x : Int} (hx : 0 ≤ x ∧ x ≤ nd.length) (x0 : x ≠ 0) (xL : x ∉ L) :
    ∃ W', (Instr.mapUpdate 63 (.map (some mb)) (ptV (bls nd) x) (.int .i64 ((L.length : Int) + 1))).run Try.prog W = .ok () W' ∧ PtM W' mb (bls nd) (L ++ [x]) ∧ Frm (· = mb) W W' := by
  have hin : ∀ y ∈ (0 :: L), 0 ≤ y ∧ y ≤ nd.length := fun y hy => by
    rcases List.mem_cons.1 hy with rfl | hy
    · omega
    · have := hL.in_ y hy; omega
  have hf := fnd_pt (w := W) (x := ptA (bls nd) x) (es := mE (bls nd) (0 :: L) 0) (by rw [mE]; simp) (h.find_ hx (0 :: L) 0 hin)
  have ht := Try.underlying63
  have hc := chk_pt (ptA (bls nd) x) false W
  rw [posF, if_neg x0] at hf
  rcases posF_at L x 0 with ⟨k1, k2, k3⟩ | ⟨p, k1, k2, k3⟩
  · rw [Nat.zero_add] at k1 hf
    rw [k1] at hf
    refine ⟨setBlock W mb (.map ((mE (bls nd) (0 :: L) 0).toArray.push ⟨ptV (bls nd) x, .int .i64 ((L.length : Int) + 1), L.length + 1⟩) (L.length + 1 + 1)), ?_, ?_, ⟨rfl, rfl, rfl, by simp [setBlock], fun i _ hi => heap_setBlock_other hm _ hi⟩⟩
    · unfold Instr.mapUpdate ptV
      simp [run_underlying ht, MapKept.run_getObj_map hm, hc, hf, MapKept.run_setObj_map _ hm, Result.andThen, setBlock]
    · unfold PtM
      rw [heap_setBlock_same hm]
      have : (mE (bls nd) (0 :: L) 0).toArray.push ⟨ptV (bls nd) x, .int .i64 ((L.length : Int) + 1), L.length + 1⟩ = (mE (bls nd) (0 :: (L ++ [x])) 0).toArray := by
        apply Array.ext'
        rw [← List.cons_append, mE_snoc, List.length_cons, Nat.zero_add]
        simp
      rw [this, List.length_append, List.length_singleton]
  · exact absurd k2 xL
end

/-- No node is told 0, ahead of all. -/
theorem run_first (w : World) (mb : Nat) (bl : List Nat) (hm : w.heap[mb]? = some (.map #[] 0)) :
    ∃ w', (Instr.mapUpdate 63 (.map (some mb)) (.pointer none) (.int .i64 0)).run Try.prog w = .ok () w' ∧ PtM w' mb bl [] ∧ Frm (· = mb) w w' := by
  have ht := Try.underlying63
  have hp := Try.underlying66
  have hc := chk_pt none false w
  have hf : (Instr.findKey 66 (.pointer none) []).run Try.prog w = .ok none w := by
    unfold Instr.findKey
    rw [Sem.run_bind, run_underlying hp, Result.andThen_ok]
    rfl
  refine ⟨setBlock w mb (.map #[⟨.pointer none, .int .i64 0, 0⟩] 1), ?_, ?_, ⟨rfl, rfl, rfl, by simp [setBlock], fun i _ hi => heap_setBlock_other hm _ hi⟩⟩
  · unfold Instr.mapUpdate
    simp [run_underlying ht, MapKept.run_getObj_map hm, hc, hf, MapKept.run_setObj_map _ hm, Result.andThen, setBlock]
  · unfold PtM
    rw [heap_setBlock_same hm]
    rfl

section
variable (w : World) {ops : Array Oper} {rest : List Oper} {o : Oper} {a : Act} {Q : Exit → Act → World → Prop}
/-- .. at the operation, for the walk. -/
theorem wpList_update_pt (hg : o.guard = none) (m x v : Operand) (hop : o.op = Op.mapUpdate 63 m x v) (mv xv vv : Value) (hm : a.eval m = mv) (hx : a.eval x = xv) (hv : a.eval v = vv) {T : World → Prop}
    (h : ∃ w', (Instr.mapUpdate 63 mv xv vv).run Try.prog w = .ok () w' ∧ T w') (hK : ∀ w', T w' → wpList Try.prog ops Q rest (a.put o.dst undef) w') : wpList Try.prog ops Q (o :: rest) a w := by
  refine wpList_plain hg fun K' hK' => ?_
  obtain ⟨w', hrun, r1⟩ := h
  unfold Oper.wp
  simp [execOp, hop, hm, hx, hv, hrun, Result.andThen]
  exact hK' _ _ (hK w' r1)
theorem wpList_insert_pt (hg : o.guard = none) (m x v : Operand) (hop : o.op = Op.insert 63 m x v) (mv xv vv : Value) (hm : a.eval m = mv) (hx : a.eval x = xv) (hv : a.eval v = vv) {T : World → Prop}
    (h : ∃ w', (Instr.mapUpdate 63 mv xv vv).run Try.prog w = .ok () w' ∧ T w') (hK : ∀ w', T w' → wpList Try.prog ops Q rest (a.put o.dst undef) w') : wpList Try.prog ops Q (o :: rest) a w := by
  refine wpList_plain hg fun K' hK' => ?_
  obtain ⟨w', hrun, r1⟩ := h
  unfold Oper.wp
  simp [execOp, hop, hm, hx, hv, hrun, Result.andThen]
  exact hK' _ _ (hK w' r1)
end
end Go.Proofs.Ytjjjeeffllelaaa
