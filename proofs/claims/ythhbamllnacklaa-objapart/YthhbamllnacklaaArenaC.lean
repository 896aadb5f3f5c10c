/- Contracts of Zero and Copy; 'clear' as a law for the walk. -/
import Derived.Test.YthhbamllnacklaaArenaB
import Derived.Laws.CopyOwn
namespace Go.Proofs.Ythhbamllnacklaa
open Go.RowKit

theorem zeroU (n : Nat) : (Builtin.zeroCells (Value.int .u64 0).cells n).toList = List.replicate n (Value.int .u64 0) := by
  apply List.ext_getElem
  · simp [size_zeroCells, Value.cells]
  · intro i h1 h2
    simp [Builtin.zeroCells, Value.cells, Nat.mod_one]

theorem run_clear {P : Program} (w : World) (T ty elem : TypeId) (i : TypeInfo) (z : Value) (hu : P.underlying T = some (.slice elem)) (hi : P.info? elem = some i) (hz : i.zero = some z) (zs : List Value) (n : Nat)
    (hzs : (Builtin.zeroCells z.cells n).toList = zs) (hlen : zs.length = n) (hone : ∀ v ∈ zs, v.oneCell' = true)
    (sp : Option Addr) (cap g off : Nat) (cur : List Value) (t : TypeId) (hg : w.heap[g]? = some (.cells cur.toArray t (0, 0))) (hpos : 0 < n → sp = some ⟨g, off, none⟩) (hfit : off + n ≤ cur.length) :
    (Builtin.clear_ #[T] ty #[.slice sp n cap]).run P w = .ok (.tuple #[]) (w.setRow g (splice cur off zs).toArray) := by
  by_cases h0 : n = 0
  · subst h0
    obtain rfl : zs = [] := List.eq_nil_of_length_eq_zero hlen
    have e : w.setRow g (splice cur off []).toArray = w := by
      have : splice cur off [] = cur := by simp [splice]
      rw [this]
      exact setRow_self w g _ t _ hg
    rw [e]
    cases sp <;> simp [Builtin.clear_, run_underlying hu]
  · obtain rfl := hpos (by omega)
    have hst := run_storeCells_at P g off t zs 0 cur.toArray w hg (by simp; omega) hone
    obtain ⟨m, rfl⟩ : ∃ m, n = m + 1 := ⟨n - 1, by omega⟩
    simp [Builtin.clear_, run_underlying hu, zeroValue, typeInfo, hi, hz, hzs]
    simp at hst
    rw [hst]
    simp [splice]

theorem wpList_clear {P : Program} {w : World} {ops : Array Oper} {rest : List Oper} {o : Oper} {a : Act} {Q : Exit → Act → World → Prop} (hgd : o.guard = none) (s : Operand) (T : TypeId)
    (ho : o.op = .call { callee := .builtin .clear, args := #[s], argTypes := #[T] }) (elem : TypeId) (i : TypeInfo) (z : Value) (hu : P.underlying T = some (.slice elem)) (hi : P.info? elem = some i) (hz : i.zero = some z) (zs : List Value) (n : Nat)
    (hzs : (Builtin.zeroCells z.cells n).toList = zs) (hlen : zs.length = n) (hone : ∀ v ∈ zs, v.oneCell' = true)
    (sp : Option Addr) (cap g off : Nat) (cur : List Value) (t : TypeId) (hs : a.eval s = .slice sp n cap) (hg : w.heap[g]? = some (.cells cur.toArray t (0, 0))) (hpos : 0 < n → sp = some ⟨g, off, none⟩) (hfit : off + n ≤ cur.length)
    (h : wpList P ops Q rest (a.put o.dst (.tuple #[])) (w.setRow g (splice cur off zs).toArray)) : wpList P ops Q (o :: rest) a w := by
  refine wpList_plain hgd fun K hK => ?_
  have hrun := run_clear (P := P) w T o.type elem i z hu hi hz zs n hzs hlen hone sp cap g off cur t hg hpos hfit
  unfold Oper.wp
  simp [execOp, ho, resolve, invoke, builtin, hs, hrun, Result.andThen]
  exact hK _ _ h

theorem splice_map {α β : Type} (f : α → β) (L : List α) (off : Nat) (cs : List α) : splice (L.map f) off (cs.map f) = (splice L off cs).map f := by
  simp [splice, List.map_take, List.map_drop]

theorem turns_row {w : World} {a b : Nat} {ws : List Int} {c : Int} (h : IsAr w a b ws c) (d : Int) (off : Nat) (cs : List Int) (hf : off + cs.length ≤ ws.length) (vs : List Value) (hv : vs = cs.map (Value.int .u64)) :
    Turns a b (splice ws off cs) d w ((w.setCell ⟨a, 1, none⟩ (.int .i64 d)).setRow b (splice (ws.map (Value.int .u64)) off vs).toArray) := by
  subst hv
  have h1 := isAr_count h d
  refine ⟨⟨?_, ?_⟩, ((Frm.refl _ w).setCell (p := ⟨a, 1, none⟩) (fun _ => .inl rfl) _).setRow (fun _ => .inr rfl) _, by simp [World.setCell]⟩
  · rw [length_splice _ _ _ hf]
    exact h1.1.farRow h.ne
  · rw [splice_map]
    exact h1.2.row

set_option maxHeartbeats 1000000 in
theorem zero_nil (at_ n : Int) (w : World) :
    Calls Try.prog 28 #[.pointer none, .int .i64 at_, .int .i64 n] w fun e w' => e = .returned (.int .i64 2) ∧ w = w' := by
  go_enter Try.func28, Try.ntmps28
  go_wp2_with fail
  refine (has_nil _ _ _).mono ?_
  rintro e w' ⟨rfl, rfl⟩
  go_wp2
  go_ret
  exact ⟨rfl, rfl⟩

set_option maxHeartbeats 1000000 in
theorem zero_no (a b : Nat) (ws : List Int) (c at_ n : Int) (w : World) (h : IsAr w a b ws c) (hl : ws.length ≤ 1048576) (a1 : at_ ≤ 9223372036854775807) (hh : hasB ws.length at_ n = false) :
    Calls Try.prog 28 #[arP a, .int .i64 at_, .int .i64 n] w fun e w' => e = .returned (.int .i64 2) ∧ w = w' := by
  go_enter Try.func28, Try.ntmps28
  go_wp2_with fail
  refine (has_any a b ws c _ _ _ h hl a1).mono ?_
  rintro e w' ⟨rfl, rfl⟩
  go_wp2
  go_ret
  exact ⟨rfl, rfl⟩

theorem map_replicate0 (n : Nat) : List.replicate n (Value.int .u64 0) = (List.replicate n (0 : Int)).map (Value.int .u64) := by simp

set_option maxHeartbeats 1000000 in
theorem zero_yes (a b : Nat) (ws : List Int) (c : Int) (k n : Nat) (w : World) (h : IsAr w a b ws c) (hl : ws.length ≤ 1048576) (hk : k + n ≤ ws.length) :
    Calls Try.prog 28 #[arP a, .int .i64 k, .int .i64 n] w fun e w' => e = .returned (.int .i64 0) ∧ Turns a b (splice ws k (List.replicate n 0)) (addC c n) w w' := by
  have HT := Lib.hid (turns_row h (addC c n) k (List.replicate n 0) (by simpa using hk) _ (map_replicate0 n))
  have hh : hasB ws.length k n = true := (hasB_iff ..).2 ⟨by omega, by omega, by omega⟩
  have hn := h.ne
  obtain ⟨c0, c1, f1⟩ := h.cells
  have H := has_any a b ws c k n w h hl (by omega)
  have HH := Lib.hid H
  have HA := (isAr_count h (addC c n)).2
  have HF : k + n ≤ (ws.map (Value.int .u64)).length := by simpa using hk
  clear H h
  unfold u64s at HA
  generalize ws.map (Value.int .u64) = cur at *
  generalize ws.length = len at *
  obtain ⟨i, hi, hz, _, _⟩ := info_parts info_u64
  have hcl : ∀ sp cap, (0 < n → sp = some ⟨b, k, none⟩) → (Builtin.clear_ #[26] 0 #[.slice sp n cap]).run Try.prog (w.setCell ⟨a, 1, none⟩ (.int .i64 (wrap64 (c + n)))) =
      .ok (.tuple #[]) ((w.setCell ⟨a, 1, none⟩ (.int .i64 (addC c n))).setRow b (splice cur k (List.replicate n (Value.int .u64 0))).toArray) := by
    intro sp cap hsp
    exact run_clear (P := Try.prog) _ 26 0 22 i _ Try.underlying26 hi hz _ n (zeroU n) (by simp) (by intro v hv; rw [List.eq_of_mem_replicate hv]; rfl) sp cap b k cur _ HA hsp HF
  clear HA hi hz HF
  obtain ⟨zs, hzs⟩ : ∃ zs, zs = List.replicate n (Value.int .u64 0) := ⟨_, rfl⟩
  rw [← hzs] at hcl HT
  clear hzs
  by_cases hc : len = k
  · subst hc
    have h0 : n = 0 := by omega
    replace hcl := (congrArg (fun m => (Builtin.clear_ #[26] 0 #[.slice (some ⟨b, 0, none⟩) m 0]).run Try.prog (w.setCell ⟨a, 1, none⟩ (.int .i64 (wrap64 (c + n))))) h0).symm.trans (hcl (some ⟨b, 0, none⟩) 0 (by omega))
    clear h0
    go_enter Try.func28, Try.ntmps28
    go_wp2_with fail
    refine HH.out.mono ?_
    rintro e w' ⟨rfl, rfl⟩
    go_wp2
    go_ret
    exact ⟨rfl, HT.out⟩
  · replace hcl := hcl (some ⟨b, k, none⟩) (len - k) (fun _ => rfl)
    go_enter Try.func28, Try.ntmps28
    go_wp2_with fail
    refine HH.out.mono ?_
    rintro e w' ⟨rfl, rfl⟩
    go_wp2
    go_ret
    exact ⟨rfl, HT.out⟩

set_option maxHeartbeats 1000000 in
theorem copy_nil (x y n : Int) (w : World) :
    Calls Try.prog 35 #[.pointer none, .int .i64 x, .int .i64 y, .int .i64 n] w fun e w' => e = .returned (.int .i64 2) ∧ w = w' := by
  go_enter Try.func35, Try.ntmps35
  go_wp2_with fail
  refine (has_nil _ _ _).mono ?_
  rintro e w' ⟨rfl, rfl⟩
  go_wp2
  go_ret
  exact ⟨rfl, rfl⟩

set_option maxHeartbeats 1000000 in
theorem copy_no (a b : Nat) (ws : List Int) (c x y n : Int) (w : World) (h : IsAr w a b ws c) (hl : ws.length ≤ 1048576) (x1 : x ≤ 9223372036854775807) (y1 : y ≤ 9223372036854775807)
    (hh : hasB ws.length x n = false ∨ hasB ws.length y n = false) :
    Calls Try.prog 35 #[arP a, .int .i64 x, .int .i64 y, .int .i64 n] w fun e w' => e = .returned (.int .i64 2) ∧ w = w' := by
  cases hx : hasB ws.length x n
  · clear hh
    go_enter Try.func35, Try.ntmps35
    go_wp2_with fail
    refine (has_any a b ws c _ _ _ h hl x1).mono ?_
    rintro e w' ⟨rfl, rfl⟩
    go_wp2
    go_ret
    exact ⟨rfl, rfl⟩
  · have hy : hasB ws.length y n = false := by
      rcases hh with e | e
      · rw [hx] at e; cases e
      · exact e
    clear hh
    go_enter Try.func35, Try.ntmps35
    go_wp2_with fail
    refine (has_any a b ws c _ _ _ h hl x1).mono ?_
    rintro e w' ⟨rfl, rfl⟩
    go_wp2_with fail
    refine (has_any a b ws c _ _ _ h hl y1).mono ?_
    rintro e w' ⟨rfl, rfl⟩
    go_wp2
    go_ret
    exact ⟨rfl, rfl⟩
end Go.Proofs.Ythhbamllnacklaa
