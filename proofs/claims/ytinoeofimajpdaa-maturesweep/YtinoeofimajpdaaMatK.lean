/- Contract of the program's Give. -/
import Derived.Test.YtinoeofimajpdaaMatH
namespace Go.Proofs.Ytinoeofimajpdaa
open Go.RowKit

/-- How Give ends. -/
def GaveM (b pb : Nat) (ub : Nat → Nat) (F G : Int) (pgs : List Pg) (ps : List Bool) (n : Int) (w : World) (e : Ending) (w' : World) : Prop :=
  ∃ ok pgs' ps', e = .returned (.bool ok) ∧ GiveA F G ps pgs n ok pgs' ps' ∧ IsSp w' b pb ub F G pgs' ps' ∧ Frm (SpS b pb ub pgs) w w'

theorem give_some {F G n : Int} {pgs : List Pg} {ps : List Bool} {p j : Nat} {x : Pg} (hx : pgs[p]? = some x) (hj : x.flags[j]? = some true) (hn : n = F + p * G + j * x.size G) (ht : hasV (x.flags.set j false) true = true) :
    ∃ s us, x = .blk s us ∧ true ∈ us.set j false ∧ GiveA F G ps pgs n true (pgs.set p (.blk s (us.set j false))) ps := by
  have hm : true ∈ x.flags.set j false := of_decide_eq_true ht
  cases x with
  | free => simp [Pg.flags] at hj
  | rest => simp [Pg.flags] at hj
  | big c =>
    obtain rfl : j = 0 := by have := (List.getElem?_eq_some_iff.1 hj).1; simp only [Pg.flags, List.length_singleton] at this; omega
    simp [Pg.flags] at hm
  | blk s us => exact ⟨s, us, rfl, hm, Or.inr (Or.inl ⟨p, j, s, us, hx, hj, hn, rfl, Or.inl ⟨hm, rfl, rfl⟩⟩)⟩

/-- How many pages something takes. -/
def Pg.count : Pg → Nat
  | .big c => c
  | _ => 1

theorem give_none {F G n : Int} {pgs : List Pg} {ps : List Bool} (g0 : 1 ≤ G) (wf : WF G pgs) {p j : Nat} {x : Pg} (hx : pgs[p]? = some x) (hj : x.flags[j]? = some true) (hn : n = F + p * G + j * x.size G) (ht : hasV (x.flags.set j false) true = false) :
    pagesI G (x.size G) = x.count ∧ 1 ≤ x.count ∧ p + x.count ≤ pgs.length ∧ (∀ i : Nat, p < i → i < p + x.count → pgs[i]? = some .rest) ∧ WF G (fill pgs .free p x.count) ∧ GiveA F G ps pgs n true (fill pgs .free p x.count) (ps.set p false) := by
  have hp := (List.getElem?_eq_some_iff.1 hx).1
  have hm : true ∉ x.flags.set j false := of_decide_eq_false ht
  cases x with
  | free => simp [Pg.flags] at hj
  | rest => simp [Pg.flags] at hj
  | big c =>
    obtain ⟨k1, k2, k3⟩ := wf.big p c hx
    obtain rfl : j = 0 := by have := (List.getElem?_eq_some_iff.1 hj).1; simp only [Pg.flags, List.length_singleton] at this; omega
    have hc : (⟨F + p * G, c * G, true, true⟩ : Rc) ∈ cellsP F G pgs := mem_cellsP.2 ⟨p, _, hx, by simp [Pg.cells]⟩
    obtain ⟨m, hm', em⟩ := List.getElem_of_mem hc
    have hr := Rel.unlarge (u := false) g0 (Rel.mk (List.Perm.refl _) wf) hx (show (cellsP F G pgs)[m]? = some _ by rw [List.getElem?_eq_getElem hm', em])
    refine ⟨?_, k1, k2, k3, hr.wf, Or.inr (Or.inr ⟨p, c, hx, by simpa [Pg.size] using hn, rfl, rfl, rfl⟩)⟩
    show pagesI G (c * G) = c
    have h1 := Int.mul_le_mul_of_nonneg_right (show (1 : Int) ≤ c by omega) (show 0 ≤ G by omega)
    rw [pagesI_even (by omega) (by omega) (Int.mul_emod_left _ _), Int.mul_ediv_cancel _ (by omega)]
  | blk s us =>
    obtain ⟨s0, s1, hl, _⟩ := wf.blk p s us hx
    have hm : true ∉ us.set j false := hm
    refine ⟨?_, Nat.le_refl _, hp, fun i h1 h2 => by simp only [Pg.count] at h2; omega, ?_, Or.inr (Or.inl ⟨p, j, s, us, hx, hj, hn, rfl, Or.inr ⟨hm, fill_one _ hp, rfl⟩⟩)⟩
    · show pagesI G s = 1
      rw [pagesI, if_neg (by omega), Int.ediv_eq_zero_of_lt (by omega) (by omega)]
      rfl
    · show WF G (fill pgs .free p 1)
      rw [fill_one _ hp]
      exact wf.turn hx (Or.inr ⟨s, us, rfl⟩) (Or.inl rfl)

/-- What the loop that empties pages keeps. -/
def EmpI (w0 wr : World) (b pb : Nat) (ub : Nat → Nat) (F G : Int) (pgs : List Pg) (ps : List Bool) (p m : Nat) : Prop :=
  SpB wr b F G pb pgs.length ∧ Blk wr pb (flat4 pgs.length (zeroF (stF G pgs ub ps) p m)).toArray 62 ∧
  (∀ (i : Nat) (x : Pg), pgs[i]? = some x → x.first = true → i ≠ p → Blk wr (ub i) (x.flags.map Value.bool).toArray 4) ∧ Frm (SpS b pb ub pgs) w0 wr

theorem EmpI.next {w0 wr : World} {b pb : Nat} {ub : Nat → Nat} {F G : Int} {pgs : List Pg} {ps : List Bool} {p m : Nat} (h : EmpI w0 wr b pb ub F G pgs ps p m) (hm : p + m < pgs.length) :
    EmpI w0 ((((wr.setCell ⟨pb, (p + m) * 4, none⟩ (.int .i64 0)).setCell ⟨pb, (p + m) * 4 + 1, none⟩ (.int .i64 0)).setCell ⟨pb, (p + m) * 4 + 2, none⟩ (.slice none 0 0)).setCell ⟨pb, (p + m) * 4 + 3, none⟩ (.bool false)) b pb ub F G pgs ps p (m + 1) := by
  obtain ⟨h1, h2, h3, h4⟩ := h
  have ne : b ≠ pb := Blk.ne_ h1 h2 (by decide)
  refine ⟨Blk.far (Blk.far (Blk.far (Blk.far h1 ne _) ne _) ne _) ne _, ?_, fun i x hx hf hn => ?_, ?_⟩
  · rw [← zeroF_next]
    exact h2.set4 (zeroF_four (stF_four G pgs ub ps) p m) (p + m) hm _ _ _ _
  · have hb := h3 i x hx hf hn
    have ne2 : ub i ≠ pb := Blk.ne_ hb h2 (by decide)
    exact (((hb.far ne2 _).far ne2 _).far ne2 _).far ne2 _
  · exact (((h4.setCell (p := ⟨pb, (p + m) * 4, none⟩) (fun _ => Or.inr (Or.inl rfl)) _).setCell (p := ⟨pb, (p + m) * 4 + 1, none⟩) (fun _ => Or.inr (Or.inl rfl)) _).setCell (p := ⟨pb, (p + m) * 4 + 2, none⟩) (fun _ => Or.inr (Or.inl rfl)) _).setCell (p := ⟨pb, (p + m) * 4 + 3, none⟩) (fun _ => Or.inr (Or.inl rfl)) _

set_option maxHeartbeats 8000000 in
set_option maxRecDepth 100000 in
theorem mGive_any (b pb : Nat) (ub : Nat → Nat) (F G : Int) (pgs : List Pg) (ps : List Bool) (n : Int) (w : World) (h : IsSp w b pb ub F G pgs ps) (n0 : -9223372036854775808 ≤ n) (n1 : n ≤ 9223372036854775807) :
    Calls Try.prog 12 #[spP b, .int .i64 n] w (GaveM b pb ub F G pgs ps n w) := by
  have HF := Lib.hid (mFind_any b pb ub F G pgs ps n w h n0 n1)
  have few := h.p1
  rw [← h.len] at few
  have g0 := h.g0
  have g1 := h.g1
  have HH := Lib.hid h
  obtain ⟨N, hN⟩ : ∃ N, pgs.length = N := ⟨_, rfl⟩
  rw [hN] at few
  have HN := Lib.hid hN
  clear h hN
  unfold spP at HF ⊢
  go_enter Try.func12, Try.ntmps12
  go_wp2_with fail
  refine HF.out.mono ?_
  rintro e w1 ⟨u, rfl, hA, b1⟩
  rcases hA with ⟨p, j, x, hx, ff, hj, hn, rfl⟩ | ⟨hn, rfl⟩
  · have hi := HH.out.keep b1
    obtain ⟨c0, c1, c2, cf⟩ := hi.sp.three
    obtain ⟨q, hq, d0, d1, d2, d3, df⟩ := hi.at_ hx
    have lt := (List.getElem?_eq_some_iff.1 hx).1
    rw [HN.out] at lt c2
    have jlt := (List.getElem?_eq_some_iff.1 hj).1
    have ul := (hi.fl p x hx ff).lt
    obtain ⟨_, _, z0, z1, z2, _⟩ := hi.small hx
    have fb := hi.fl p x hx ff
    have fj := fb.bools hj
    have ffz := fb.frozen
    rw [first_adr ff] at d2
    have hsz : (w1.setCell ⟨ub p, j, none⟩ (.bool false)).heap.size = w1.heap.size := by simp [World.setCell]
    have CP : Hid (Blk ((w1.setCell ⟨ub p, j, none⟩ (.bool false)).alloc (.cells #[.int .i64 x.kind, .int .i64 (x.size G), .slice (some ⟨ub p, 0, none⟩) x.flags.length x.flags.length, .bool q] 62)) w1.heap.size #[.int .i64 x.kind, .int .i64 (x.size G), .slice (some ⟨ub p, 0, none⟩) x.flags.length x.flags.length, .bool q] 62) := Lib.hid (by
      have h := Blk.new (w1.setCell ⟨ub p, j, none⟩ (.bool false)) #[.int .i64 x.kind, .int .i64 (x.size G), .slice (some ⟨ub p, 0, none⟩) x.flags.length x.flags.length, .bool q] 62
      rw [hsz] at h
      exact h)
    have FB := Lib.hid ((fb.setBool j false).alloc (.cells #[.int .i64 x.kind, .int .i64 (x.size G), .slice (some ⟨ub p, 0, none⟩) x.flags.length x.flags.length, .bool q] 62))
    have FR := Lib.hid (((Frm.of_below (S := SpS b pb ub pgs) b1).setCell (p := ⟨ub p, j, none⟩) (fun _ => Or.inr (Or.inr ⟨p, x, hx, ff, rfl⟩)) (.bool false)).alloc (.cells #[.int .i64 x.kind, .int .i64 (x.size G), .slice (some ⟨ub p, 0, none⟩) x.flags.length x.flags.length, .bool q] 62))
    clear hsz
    have ln : (x.flags.set j false).length = x.flags.length := List.length_set
    have hC := contains_any (ub p) (x.flags.set j false) true _ FB.out (by rw [ln]; omega)
    rw [ln] at hC
    cases ht : hasV (x.flags.set j false) true
    · rw [ht] at hC
      obtain ⟨e1, e2, e3, e4, e5, e6⟩ := give_none (ps := ps) g0 HH.out.wf hx hj hn ht
      have HC := Lib.hid hC
      have E1 := Lib.hid e1
      have E6 := Lib.hid (And.intro e4 (And.intro e5 e6))
      rw [HN.out] at e3
      have PQ := pages_quiet G (x.size G)
      rw [e1] at PQ
      have KQ := Lib.hid PQ
      have EI : Hid (EmpI w ((w1.setCell ⟨ub p, j, none⟩ (.bool false)).alloc (.cells #[.int .i64 x.kind, .int .i64 (x.size G), .slice (some ⟨ub p, 0, none⟩) x.flags.length x.flags.length, .bool q] 62)) b pb ub F G pgs ps p 0) := Lib.hid
        ⟨Blk.alloc (Blk.far hi.sp (hi.u_ne hx ff) _) _, by rw [zeroF_none]; exact (hi.pg.far (hi.f_ne hx ff).symm _).alloc _,
         fun i y hy hf hne => ((hi.fl i y hy hf).far (fun e => hne (hi.inj i p y x hy hx hf ff e)) _).alloc _, FR.out⟩
      generalize hc : x.count = cnt at *
      clear hC ln hi hx ff hj hn ht e1 e4 e5 e6 hq PQ fb hc
      go_wp2_with fail
      refine HC.out.mono ?_
      rintro e w2 ⟨rfl, rfl⟩
      go_wp2_with fail
      clear HC FB FR d0 d1 d2 d3 df c0 c1 c2 cf fj ffz b1
      generalize World.alloc (World.setCell w1 _ _) _ = W at *
      obtain ⟨y0, y1, y2, y3⟩ := EI.out.1.three
      have k1 := CP.out.cell 1
      have kf := CP.out.frozen
      have k1 : W.cell? ⟨w1.heap.size, 1, none⟩ = some (.int .i64 (x.size G)) := k1
      clear CP
      go_big_quiet ((go_at_call 30; refine Calls.quiet_of (KQ.out _ (by omega))))
      generalize hW : W.drewN _ = W2
      have b2 : Below W.heap.size W W2 := hW ▸ below_drewN W _
      have E2 : Hid (EmpI w W2 b pb ub F G pgs ps p 0) := Lib.hid ⟨Blk.keep EI.out.1 b2, EI.out.2.1.keep b2, fun i y hy hf hne => (EI.out.2.2.1 i y hy hf hne).keep b2, EI.out.2.2.2.trans (Frm.of_below (S := SpS b pb ub pgs) b2) (fun _ _ h => h)⟩
      clear hW b2 EI y0 y1 y2 y3 k1 kf KQ E1
      go_wp2_with fail
      go_loopw [40] (fun s40 wr => ∃ m : Nat, m ≤ cnt ∧ s40 = .int .i64 m ∧ Hid (EmpI w wr b pb ub F G pgs ps p m)) (fun s40 _ => cnt - (intOf s40).toNat)
      case atStart => exact ⟨0, Nat.zero_le _, rfl, E2⟩
      case round =>
        clear E2
        obtain ⟨m, hm, rfl, HE⟩ := hrel
        by_cases mlt : m < cnt
        · obtain ⟨y0, y1, y2, y3⟩ := HE.out.1.three
          rw [HN.out] at y2
          obtain ⟨v0, v1, v2, v3, hv⟩ : ∃ v0 v1 v2 v3, zeroF (stF G pgs ub ps) p m (p + m) = [v0, v1, v2, v3] := by
            unfold zeroF; rw [if_neg (by omega)]; exact ⟨_, _, _, _, rfl⟩
          have cell : ∀ t, t < 4 → wr.cell? ⟨pb, (p + m) * 4 + t, none⟩ = [v0, v1, v2, v3][t]? := fun t ht => by
            rw [HE.out.2.1.cell, List.getElem?_toArray, flat4_at (zeroF_four (stF_four G pgs ub ps) p m) (by rw [HN.out]; omega) ht, hv]
          have k0 := cell 0 (by omega)
          have k1 := cell 1 (by omega)
          have k2 := cell 2 (by omega)
          have k3 := cell 3 (by omega)
          have kf := HE.out.2.1.frozen
          simp only [Nat.add_zero, List.getElem?_cons_zero, List.getElem?_cons_succ] at k0 k1 k2 k3
          clear cell hv y0 y1
          go_wp2
          go_roundw
          case rel => exact ⟨m + 1, by omega, by go_num, Lib.hid (HE.out.next (by rw [HN.out]; omega))⟩
          case measure => simp [intOf]; omega
        · obtain rfl : m = cnt := by omega
          go_wp2
          go_ret
          exact ⟨true, _, _, rfl, E6.out.2.2, HH.out.emptied e2 (by rw [HN.out]; exact e3) E6.out.1 E6.out.2.1 HE.out.1 HE.out.2.1 HE.out.2.2.1, HE.out.2.2.2⟩
    · rw [ht] at hC
      obtain ⟨s, us, rfl, hm, hG⟩ := give_some (F := F) (G := G) (n := n) (ps := ps) hx hj hn ht
      have HC := Lib.hid hC
      have SF := Lib.hid (IsSp.keep (hi.setFlag (j := j) hx false (by
        obtain ⟨k1, k2, k3, _⟩ := HH.out.wf.blk p s us hx
        exact HH.out.wf.turn hx (Or.inr ⟨s, us, rfl⟩) (Or.inr ⟨s, _, rfl, k1, k2, by rw [List.length_set]; exact k3, hm⟩)))
        ((Below.refl _ _).alloc (Nat.le_refl _) (.cells #[.int .i64 1, .int .i64 s, .slice (some ⟨ub p, 0, none⟩) us.length us.length, .bool q] 62)))
      have GA := Lib.hid hG
      clear hC ln hi hx ff hj hn ht hm hG hq fb
      go_wp2_with fail
      refine HC.out.mono ?_
      rintro e w2 ⟨rfl, rfl⟩
      go_wp2
      go_ret
      exact ⟨true, _, _, rfl, GA.out, SF.out, FR.out⟩
  · have R := Lib.hid (show GiveA F G ps pgs n false pgs ps from Or.inl ⟨hn, rfl, rfl, rfl⟩)
    clear hn
    go_wp2
    go_ret
    exact ⟨false, pgs, ps, rfl, R.out, HH.out.keep b1, Frm.of_below b1⟩
end Go.Proofs.Ytinoeofimajpdaa
