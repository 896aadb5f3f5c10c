/- The program's graph: what is met, as the closure of met tells it. -/
import Derived.Test.YtjjjeeffllelaaaGgH
import Derived.Test.YtjjjeeffllelaaaRhE
namespace Go.Proofs.Ytjjjeeffllelaaa
open Go.RowKit Go.Maps

/-- While a graph is gone through: the row of what was met in the box ob, the map of its numbers (block mb) in the box nx. -/
structure MetI (w0 w : World) (ob nx mb : Nat) (v : Value) (bl : List Nat) (N : Nat) (L : List Int) : Prop where
  bel : Below w0.heap.size w0 w
  obl : Blk w ob #[v] 49
  nbl : Blk w nx #[.map (some mb)] 63
  map : PtM w mb bl L
  row : w.ownsRow w0.heap.size 66 1 v L.length (ptVs bl L)
  olow : w0.heap.size ≤ ob
  nlow : w0.heap.size ≤ nx
  mlow : w0.heap.size ≤ mb
  lv : LiveL N L
  few : N ≤ 1048576

section
variable {w0 w : World} {ob nx mb g hb N : Nat} {v : Value} {nd : List Pd} {hs : List Int} {lg : Int} {L : List Int}

theorem MetI.keep {w' : World} (h : MetI w0 w ob nx mb v (bls nd) N L) (f : Below w.heap.size w w') : MetI w0 w' ob nx mb v (bls nd) N L :=
  { h with bel := below_trans h.bel f, obl := h.obl.keep f, nbl := h.nbl.keep f, map := h.map.keep f, row := row_frm h.row (Frm.of_below (S := fun _ => False) f) fun _ _ e => e }

/-- One more is met: the box of what is appended, behind the append and the store, behind the map's turn. -/
theorem MetI.more (h : MetI w0 w ob nx mb v (bls nd) nd.length L) (i0 : IsP w0 g hb nd hs lg) {x : Int} (x0 : 0 ≤ x ∧ x ≤ nd.length) (nz : x ≠ 0) (hx : x ∉ L) {w1 : World} (e1 : w.alloc (.cells #[ptV (bls nd) x] 66) = w1) :
    (w1.ownsRow w0.heap.size 66 1 v L.length (ptVs (bls nd) L) ∧ (∀ j u, [ptV (bls nd) x][j]? = some u → w1.cell? ((⟨w.heap.size, 0, none⟩ : Addr).add j) = some u) ∧ w0.heap.size ≤ w1.heap.size) ∧
    ∀ v' w2, w2.ownsRow w0.heap.size 66 1 v' (L.length + 1) (ptVs (bls nd) L ++ [ptV (bls nd) x]) → w1.grownBy w2 v.ownBlock →
      (∃ gq cap, v' = .slice (some ⟨gq, 0, none⟩) (L.length + 1) cap) ∧ w2.cell? ⟨ob, 0, none⟩ = some v ∧ w2.frozen? ⟨ob, 0, none⟩ = false ∧ ob < w2.heap.size ∧
      ∀ w3, w2.setCell ⟨ob, 0, none⟩ v' = w3 → w3.cell? ⟨nx, 0, none⟩ = some (.map (some mb)) ∧ w3.cell? ⟨ob, 0, none⟩ = some v' ∧
        (∃ w4, (Instr.mapUpdate 63 (.map (some mb)) (ptV (bls nd) x) (.int .i64 ((L.length : Int) + 1))).run Try.prog w3 = .ok () w4 ∧ MetI w0 w4 ob nx mb v' (bls nd) nd.length (L ++ [x])) := by
  have f1 : Below w.heap.size w w1 := by rw [← e1]; exact (Below.refl _ _).alloc (Nat.le_refl _) _
  have k := h.keep f1
  have kb : Blk w1 w.heap.size #[ptV (bls nd) x] 66 := by rw [← e1]; exact Blk.new w _ _
  refine ⟨⟨k.row, ?_, k.bel.size⟩, fun v' w2 ro gr => ?_⟩
  · intro j u hj
    rw [Addr.add_lit, Nat.zero_add, kb.cell]
    simpa using hj
  have fr := grown_frm gr
  have no : ∀ {b : Nat} {cs : Array Value} {t : TypeId}, Blk w1 b cs t → t ≠ 66 → ¬ v.ownBlock = some b := fun hb ht e => by
    obtain ⟨_, cur, hc⟩ := row_blk k.row e
    exact Blk.ne_ hb hc ht rfl
  have ob2 := k.obl.frm fr (no k.obl (by decide))
  have nb2 := k.nbl.frm fr (no k.nbl (by decide))
  have mp2 : PtM w2 mb (bls nd) L := k.map.frm fr fun e => by
    obtain ⟨_, cur, hc⟩ := row_blk k.row e
    exact k.map.ne hc rfl
  have b2 : Below w0.heap.size w0 w2 := Below.frm k.bel fr k.bel.size fun j hj e => by have := (row_blk k.row e).1; omega
  refine ⟨?_, ob2.cell 0, ob2.frozen 0, ob2.lt, fun w3 e3 => ?_⟩
  · obtain ⟨_, hv⟩ := ro
    rcases hv with ⟨_, e⟩ | ⟨gq, cap, cur, e, _⟩
    · omega
    · exact ⟨gq, cap, e⟩
  have f3 : Frm (fun j => j = ob) w2 w3 := by rw [← e3]; exact Frm.setCell (S := fun j => j = ob) (Frm.refl _ _) (p := ⟨ob, 0, none⟩) (fun _ => rfl) _
  have ob3 : Blk w3 ob #[v'] 49 := by rw [← e3]; exact ob2.set_ 0 v'
  have nb3 := nb2.frm f3 (fun e => Blk.ne_ nb2 ob2 (by decide) e)
  have mp3 : PtM w3 mb (bls nd) L := mp2.frm f3 (fun e => mp2.ne ob2 e.symm)
  have ro3 := row_frm ro f3 fun j hj e => by
    obtain ⟨_, cur, hc⟩ := row_blk ro hj
    exact Blk.ne_ hc ob2 (by decide) e
  have b3 : Below w0.heap.size w0 w3 := Below.frm b2 f3 b2.size fun j hj e => by have := h.olow; omega
  have i3 := i0.keep b3
  refine ⟨nb3.cell 0, ob3.cell 0, ?_⟩
  obtain ⟨w4, hr, m4, f4⟩ := i3.put mp3 h.lv x0 nz hx
  refine ⟨w4, hr, ?_⟩
  exact
    { bel := Below.frm b3 f4 b3.size fun j hj e => by have := h.mlow; omega
      obl := ob3.frm f4 fun e => mp3.ne ob3 e
      nbl := nb3.frm f4 fun e => mp3.ne nb3 e
      map := m4
      row := row_frm (by rw [List.length_append, List.length_singleton]; have : ptVs (bls nd) (L ++ [x]) = ptVs (bls nd) L ++ [ptV (bls nd) x] := by simp [ptVs]
                         rw [this]; exact ro3) f4 fun j hj e => by
        obtain ⟨_, cur, hc⟩ := row_blk ro3 hj
        exact mp3.ne hc e
      olow := h.olow
      nlow := h.nlow
      mlow := h.mlow
      lv := h.lv.new (by omega) x0.2 hx
      few := h.few }

set_option maxHeartbeats 8000000 in
set_option maxRecDepth 100000 in
/-- What a list refers to is met. -/
theorem met1 (h : MetI w0 w ob nx mb v (bls nd) nd.length L) (i0 : IsP w0 g hb nd hs lg) {xs : List Int} {lb n : Nat} (hn : xs.length = n) (few : n ≤ 64) (hin : ∀ x ∈ xs, 0 ≤ x ∧ x ≤ nd.length) (hl : Blk w0 lb (ptVs (bls nd) xs).toArray 66) :
    Calls Try.prog 41 #[.slice (some ⟨lb, 0, none⟩) n n, .pointer (some ⟨nx, 0, none⟩), .pointer (some ⟨ob, 0, none⟩)] w fun e w' => e = .returned (.tuple #[]) ∧ ∃ v', MetI w0 w' ob nx mb v' (bls nd) nd.length (metsL L xs) := by
  obtain ⟨i1, hi1, hz1, hs1, hb1⟩ := info_parts info_pt
  have HI := Lib.hid (And.intro hi1 (And.intro hz1 (And.intro hs1 hb1)))
  have HH := Lib.hid (And.intro h (And.intro i0 (And.intro hn (And.intro hin hl))))
  clear h i0 hn hin hl hz1 hs1 hb1 hi1
  go_enter Try.func41, Try.ntmps41
  go_wp2_with fail
  go_loopw [5, 6, 7, 10] (fun _ _ _ s10 wr => ∃ (i : Nat) (v : Value), i ≤ n ∧ s10 = .int .i64 i ∧ Hid (MetI w0 wr ob nx mb v (bls nd) nd.length (metsL L (xs.take i)))) (fun _ _ _ s10 _ => n - (intOf s10).toNat)
  case atStart => exact ⟨0, v, Nat.zero_le _, rfl, Lib.hid HH.out.1⟩
  case round =>
    obtain ⟨i, v, hi, rfl, HM⟩ := hrel
    by_cases hlt : i < n
    · obtain ⟨x, hx⟩ : ∃ x, xs[i]? = some x := ⟨_, List.getElem?_eq_getElem (by rw [HH.out.2.2.1]; exact hlt)⟩
      have xin := HH.out.2.2.2.1 x (List.mem_of_getElem? hx)
      have TK := metsL_take (L := L) hx
      have cx : wr.cell? ⟨lb, i, none⟩ = some (ptV (bls nd) x) := by
        have hk := HH.out.2.2.2.2.keep HM.out.bel
        rw [hk.cell]; exact ptVs_at hx
      have cn := HM.out.nbl.cell 0
      have co := HM.out.obl.cell 0
      have lk := (HH.out.2.1.keep HM.out.bel).look HM.out.map HM.out.lv xin true
      simp only [if_true] at lk
      by_cases hm : x = 0 ∨ x ∈ metsL L (xs.take i)
      · rw [decide_eq_true hm] at lk
        have HN2 := Lib.hid (show MetI w0 wr ob nx mb v (bls nd) nd.length (metsL L (xs.take (i + 1))) from by rw [TK]; unfold metL; rw [if_pos hm]; exact HM.out)
        clear hm HM TK hx xin
        unfold ptV at cx lk
        generalize ptA (bls nd) x = q at *
        generalize atL (metsL L (xs.take i)) x = z at *
        go_wp2_with fail
        go_roundw
        case rel => exact ⟨i + 1, v, by omega, by go_num, HN2⟩
        case measure => simp [intOf]; omega
      · rw [decide_eq_false hm] at lk
        have NW := Lib.hid (HM.out.more HH.out.2.1 xin (fun e => hm (.inl e)) (fun e => hm (.inr e)) rfl)
        have fw := HM.out.lv.few
        have fN := HM.out.few
        have T2 := Lib.hid (show metsL L (xs.take i) ++ [x] = metsL L (xs.take (i + 1)) from by rw [TK]; unfold metL; rw [if_neg hm])
        clear hm HM TK hx xin
        unfold ptV at cx lk NW
        generalize ptA (bls nd) x = q at *
        generalize atL (metsL L (xs.take i)) x = z at *
        generalize hM : metsL L (xs.take i) = M at *
        clear hM
        go_wp2_with (first
            | (at_builtin; refine wpList_append_own_at _ rfl _ _ 49 rfl w0.heap.size 66 i1 (.pointer none) 1 8 Try.underlying49 HI.out.1 HI.out.2.1 HI.out.2.2.1 HI.out.2.2.2 rfl (by decide) _ _ _ rfl NW.out.1.1 ⟨wr.heap.size, 0, none⟩ 1 1 [.pointer q] rfl rfl NW.out.1.2.1 ?c2 ?c3 ?c4 ?c5 ?_)
            | fail)
        case c2 =>
          intro u hu
          simp only [List.mem_cons, List.not_mem_nil, or_false] at hu
          subst hu; rfl
        case c3 => unfold maxLen; omega
        case c4 => omega
        case c5 => exact NW.out.1.2.2
        intro v' w2 ro gr _ _
        obtain ⟨⟨gq, cap, rfl⟩, n1, n2, n3, n4⟩ := NW.out.2 v' w2 ro gr
        have N4 := Lib.hid (n4 _ rfl)
        clear n4 ro gr NW lk cx cn co
        have q1 := N4.out.1
        have q2 := N4.out.2.1
        go_wp2_with (first
            | (at_mapUpdate; refine wpList_update_pt _ rfl _ _ _ rfl (.map (some mb)) (.pointer q) (.int .i64 ((M.length : Int) + 1)) rfl rfl ?v1 N4.out.2.2 ?_)
            | fail)
        case v1 => go_num
        intro w4 m4
        have M4 := Lib.hid (show MetI w0 w4 ob nx mb _ (bls nd) nd.length (metsL L (xs.take (i + 1))) from by rw [← T2.out]; exact m4)
        clear m4 N4 T2 q1 q2 n1 n2 n3
        go_wp2
        go_roundw
        case rel => exact ⟨i + 1, _, by omega, by go_num, M4⟩
        case measure => simp [intOf]; omega
    · obtain rfl : i = n := by omega
      have RE := Lib.hid (show MetI w0 wr ob nx mb v (bls nd) nd.length (metsL L xs) from by have := HM.out; rwa [List.take_of_length_le (by rw [HH.out.2.2.1]; exact Nat.le_refl _)] at this)
      clear HM
      go_wp2
      first | go_end0 | refine bodyPost_ret (results_none rfl _ _ _) rfl ?_
      exact ⟨rfl, _, RE.out⟩
end
end Go.Proofs.Ytjjjeeffllelaaa
