/- The program's graph: numbers of a list of nodes; a copy of scalars. -/
import Derived.Test.YtjjjeeffllelaaaGgJ
namespace Go.Proofs.Ytjjjeeffllelaaa
open Go.RowKit Go.Maps

/-- While numbers are told. -/
structure NumI (w0 w : World) (A : Option Addr) (c : Nat) (ys : List Int) : Prop where
  bel : Below w0.heap.size w0 w
  q : Qu w A ys.length c ys
  low : ∀ k, blkOf A = some k → w0.heap.size ≤ k

theorem NumI.add {w0 w : World} {A : Option Addr} {c : Nat} {ys : List Int} (h : NumI w0 w A c ys) (z : Int) {w1 : World} (e : w.alloc (.cells #[.int .i64 z] 3) = w1) :
    Qu w1 A ys.length c ys ∧ w1.cell? ⟨w.heap.size, 0, none⟩ = some (.int .i64 z) ∧ ∀ A' c' w2, Qu w2 A' (ys.length + 1) c' (ys ++ [z]) → Grw A A' w1 w2 → NumI w0 w2 A' c' (ys ++ [z]) := by
  have f1 : Below w.heap.size w w1 := by rw [← e]; exact (Below.refl _ _).alloc (Nat.le_refl _) _
  have b1 := below_trans h.bel f1
  refine ⟨h.q.keep f1, by rw [← e]; exact (Blk.new w _ _).cell 0, fun A' c' w2 q gr => ⟨Below.frm b1 gr.frm b1.size fun k hk e => by have := h.low k e; omega, by rw [List.length_append]; exact q, fun k hk => ?_⟩⟩
  rcases gr.at_ k hk with h1 | h1
  · exact h.low k h1
  · exact Nat.le_trans b1.size h1

section
variable {w : World} {g hb : Nat} {nd : List Pd} {hs : List Int} {lg : Int}

set_option maxHeartbeats 8000000 in
set_option maxRecDepth 100000 in
theorem nums_any (i0 : IsP w g hb nd hs lg) {mb : Nat} {L : List Int} (hm : PtM w mb (bls nd) L) (lv : LiveL nd.length L) {xs : List Int} {lb n : Nat} (hn : xs.length = n) (few : n ≤ 64) (hin : ∀ x ∈ xs, 0 ≤ x ∧ x ≤ nd.length)
    (hl : Blk w lb (ptVs (bls nd) xs).toArray 66) :
    Calls Try.prog 35 #[.slice (some ⟨lb, 0, none⟩) n n, .map (some mb)] w fun e w' => ∃ A c, e = .returned (.slice A n c) ∧ Qu w' A n c (xs.map (atL L)) ∧ Below w.heap.size w w' ∧ ∀ k, blkOf A = some k → w.heap.size ≤ k := by
  have HH := Lib.hid (And.intro i0 (And.intro hm (And.intro lv (And.intro hn (And.intro hin hl)))))
  have I0 := Lib.hid (show NumI w w none 0 [] from ⟨Below.refl _ _, Qu.nil w, fun k hk => by cases hk⟩)
  clear i0 hm lv hn hin hl
  go_enter Try.func35, Try.ntmps35
  go_wp2_with fail
  go_loopw [5, 7, 10] (fun s5 _ s10 wr => ∃ (i c : Nat) (A : Option Addr), i ≤ n ∧ s10 = .int .i64 i ∧ s5 = .slice A i c ∧ Hid (NumI w wr A c ((xs.take i).map (atL L)))) (fun _ _ s10 _ => n - (intOf s10).toNat)
  case atStart => exact ⟨0, 0, none, Nat.zero_le _, rfl, rfl, I0⟩
  case round =>
    clear I0
    obtain ⟨i, c, A, hi, rfl, rfl, HM⟩ := hrel
    by_cases hlt : i < n
    · obtain ⟨x, hx⟩ : ∃ x, xs[i]? = some x := ⟨_, List.getElem?_eq_getElem (by rw [HH.out.2.2.2.1]; exact hlt)⟩
      have xin := HH.out.2.2.2.2.1 x (List.mem_of_getElem? hx)
      have cx : wr.cell? ⟨lb, i, none⟩ = some (ptV (bls nd) x) := by
        have hk := HH.out.2.2.2.2.2.keep HM.out.bel
        rw [hk.cell]; exact ptVs_at hx
      have lk := (HH.out.1.keep HM.out.bel).look (HH.out.2.1.keep HM.out.bel) HH.out.2.2.1 xin false
      simp only [Bool.false_eq_true, if_false] at lk
      have hlen : ((xs.take i).map (atL L)).length = i := by rw [List.length_map, List.length_take, HH.out.2.2.2.1]; omega
      have NW := Lib.hid (HM.out.add (atL L x) rfl)
      rw [hlen] at NW
      have TK := Lib.hid (show (xs.take i).map (atL L) ++ [atL L x] = (xs.take (i + 1)).map (atL L) from by rw [List.take_add_one, hx, Option.toList_some, List.map_append]; rfl)
      clear hlen HM hx xin
      generalize (xs.take i).map (atL L) = M at NW TK
      unfold ptV at cx lk
      generalize ptA (bls nd) x = q at *
      generalize atL L x = z at *
      go_wp2_with (first
        | (at_builtin; (refine wpList_append_qu _ rfl _ _ rfl NW.out.1 (by omega) z ⟨wr.heap.size, 0, none⟩ 1 rfl rfl NW.out.2.1 ?_))
        | fail)
      intro A' c' w2 qu gr
      have HN2 := Lib.hid (show NumI w w2 A' c' ((xs.take (i + 1)).map (atL L)) from by rw [← TK.out]; exact NW.out.2.2 A' c' w2 qu gr)
      clear NW TK qu gr lk cx
      go_wp2
      go_roundw
      case rel => exact ⟨i + 1, c', A', by omega, by go_num, rfl, HN2⟩
      case measure => simp [intOf]; omega
    · obtain rfl : i = n := by omega
      have RE := Lib.hid (show ∃ A' c', (Ending.returned (.slice A i c) = .returned (.slice A' i c')) ∧ Qu wr A' i c' (xs.map (atL L)) ∧ Below w.heap.size w wr ∧ ∀ k, blkOf A' = some k → w.heap.size ≤ k from by
        have h := HM.out
        rw [List.take_of_length_le (by rw [HH.out.2.2.2.1]; exact Nat.le_refl _)] at h
        have q := h.q
        rw [List.length_map, HH.out.2.2.2.1] at q
        exact ⟨A, c, rfl, q, h.bel, h.low⟩)
      clear HM
      go_wp2
      go_ret
      exact RE.out
end

set_option maxRecDepth 100000 in
theorem eq_nilU (a : Addr) (n c : Nat) (v : World) : Sem.run Try.prog (binOp .eql 43 (.slice (some a) n c) (.slice none 0 0)) v = .ok (.bool false) v := rfl

set_option maxHeartbeats 4000000 in
set_option maxRecDepth 100000 in
theorem clone_u {w : World} {sb n : Nat} {ss : List Int} (hn : ss.length = n) (few : n ≤ 64) (h : Blk w sb (wordsU ss).toArray 28) :
    Calls Try.prog 36 #[.slice (some ⟨sb, 0, none⟩) n n] w fun e w' => ∃ B d, e = .returned (.slice B n d) ∧ w'.ownsRow w.heap.size 28 1 (.slice B n d) n (wordsU ss) ∧ Below w.heap.size w w' := by
  obtain ⟨i1, hi1, hz1, hs1, hb1⟩ := info_parts info_u64r
  have HI := Lib.hid (And.intro hi1 (And.intro hz1 (And.intro hs1 hb1)))
  have al : Below w.heap.size w (w.alloc (.cells #[] 28)) := (Below.refl _ _).alloc (Nat.le_refl _) _
  have NW := Lib.hid (show (w.alloc (.cells #[] 28)).ownsRow w.heap.size 28 1 (.slice (some ⟨w.heap.size, 0, none⟩) 0 0) 0 [] ∧ (∀ j u, (wordsU ss)[j]? = some u → (w.alloc (.cells #[] 28)).cell? ((⟨sb, 0, none⟩ : Addr).add j) = some u) ∧
      (wordsU ss).length = n * 1 ∧ (∀ u ∈ wordsU ss, u.oneCell' = true) ∧ w.heap.size ≤ (w.alloc (.cells #[] 28)).heap.size ∧ Below w.heap.size w (w.alloc (.cells #[] 28)) from by
    refine ⟨⟨rfl, .inr ⟨w.heap.size, 0, #[], rfl, Nat.le_refl _, Blk.new w #[] 28, Nat.le_refl _, Nat.zero_le _, rfl, rfl⟩⟩, fun j u hj => ?_, by rw [wordsU, List.length_map, hn, Nat.mul_one], fun u hu => ?_, al.size, al⟩
    · rw [Addr.add_lit, Nat.zero_add, (h.keep al).cell]; simpa using hj
    · unfold wordsU at hu
      obtain ⟨x, _, rfl⟩ := List.mem_map.1 hu
      rfl)
  have en := eq_nilU
  clear hi1 hz1 hs1 hb1 h hn al
  go_enter Try.func36, Try.ntmps36
  go_wp2_with (first
      | (at_builtin; refine wpList_append_own_at _ rfl _ _ 43 rfl w.heap.size 28 i1 (.int .u64 0) 1 8 Try.underlying43 HI.out.1 HI.out.2.1 HI.out.2.2.1 HI.out.2.2.2 rfl (by decide) _ _ _ rfl NW.out.1 ⟨sb, 0, none⟩ n n (wordsU ss) rfl NW.out.2.2.1 NW.out.2.1 NW.out.2.2.2.1 ?c3 ?c4 NW.out.2.2.2.2.1 ?_)
      | fail)
  case c3 => unfold maxLen; omega
  case c4 => omega
  intro v' w2 ro gr nn _
  have b2 : Below w.heap.size w w2 := Below.frm NW.out.2.2.2.2.2 (grown_frm gr) NW.out.2.2.2.2.1 fun k hk e => by
    have : w.heap.size = k := Option.some.inj e
    omega
  have hv : ∃ B d, v' = .slice B n d := by
    rcases own_at ro with ⟨e1, e2⟩ | ⟨gq, cap, e1, _⟩
    · exact ⟨none, 0, by rw [e1, e2]⟩
    · exact ⟨_, cap, e1⟩
  obtain ⟨B, d, rfl⟩ := hv
  have RE := Lib.hid (And.intro ro b2)
  clear ro gr nn b2 NW HI
  go_wp2
  go_ret
  exact ⟨B, d, rfl, RE.out⟩
end Go.Proofs.Ytjjjeeffllelaaa
