/- Contracts of the program's Take and New; and the program's space has all that is asked of it. -/
import Derived.Test.YtinoeofimajpdaaMatU
import Derived.Test.YtinoeofimajpdaaMatS
import Derived.Test.YtinoeofimajpdaaMatC
namespace Go.Proofs.Ytinoeofimajpdaa
open Go.RowKit

set_option maxHeartbeats 4000000 in
theorem mTake_any (b pb : Nat) (ub : Nat → Nat) (F G : Int) (pgs : List Pg) (ps : List Bool) (n : Int) (w : World) (h : IsSp w b pb ub F G pgs ps) (n1 : n ≤ 9223372036854775807) :
    Calls Try.prog 10 #[spP b, .int .i64 n] w (TookM b pb ub F G pgs ps w (TakeA F G ps pgs n)) := by
  have HH := Lib.hid h
  obtain ⟨c0, c1, c2, cf⟩ := h.sp.three
  have g0 := h.g0
  have g1 := h.g1
  by_cases hn : n < 1
  · have R := Lib.hid (show TakeA F G ps pgs n noV pgs from Or.inl ⟨hn, rfl, rfl⟩)
    clear h c0 c1 c2
    unfold spP
    go_enter Try.func10, Try.ntmps10
    go_wp2
    go_ret2
    exact ⟨_, pgs, ub, rfl, R.out, HH.out, Frm.refl _ _, fun k hk => Or.inl hk⟩
  · have hd : largeB G n = decide (G / 2 < roundI n) := by rw [largeB, tdiv_of (by omega)]
    have hL := large_any G n w (by omega) (by omega)
    rw [hd] at hL
    by_cases hl : G / 2 < roundI n
    · have he := pagesI_enough (p := G) (n := n) g0 (by omega)
      rw [decide_eq_true hl] at hL
      obtain ⟨C, hC⟩ : ∃ C : Nat, pagesI G n = C := ⟨(pagesI G n).toNat, by omega⟩
      have hP := pages_any G n w n1
      rw [hC] at hP
      have hT := takePages_any b pb ub F G pgs ps C w h (by omega) (by omega)
      have W := Lib.hid (show ∀ u pgs', TakeLA F G pgs C u pgs' → TakeA F G ps pgs n u pgs' from fun u pgs' ht => Or.inr (Or.inl ⟨hn, hl, by rw [hC, Int.toNat_natCast]; exact ht⟩))
      have HL := Lib.hid hL
      have HP := Lib.hid hP
      have HT := Lib.hid hT
      clear h c0 c2 hL hP hT he hC hd hl
      unfold spP at HT ⊢
      go_enter Try.func10, Try.ntmps10
      go_wp2_with fail
      refine HL.out.mono ?_
      rintro e w1 ⟨rfl, rfl⟩
      go_wp2_with fail
      refine HP.out.mono ?_
      rintro e w1 ⟨rfl, rfl⟩
      go_wp2_with fail
      refine HT.out.mono ?_
      rintro e w1 ⟨u, pgs', ub', rfl, ht, hi, hf, hs⟩
      have HI := Lib.hid (And.intro (W.out u pgs' ht) (And.intro hi (And.intro hf hs)))
      have hu : (∃ x y, u = .tuple #[.int .i64 x, .bool y]) := by
        rcases ht with ⟨p, _, _, _, rfl, _⟩ | ⟨_, rfl, _⟩
        · exact ⟨_, _, rfl⟩
        · exact ⟨_, _, rfl⟩
      obtain ⟨x, y, rfl⟩ := hu
      clear ht hi hf hs
      go_wp2
      go_ret2
      exact ⟨_, pgs', ub', rfl, HI.out.1, HI.out.2.1, HI.out.2.2.1, HI.out.2.2.2⟩
    · rw [decide_eq_false hl] at hL
      have hT := takeCell_any b pb ub F G pgs ps (roundI n) w h (roundI_in n).1 (by omega)
      have W := Lib.hid (show ∀ u pgs', TakeSA F G ps pgs (roundI n) u pgs' → TakeA F G ps pgs n u pgs' from fun u pgs' ht => Or.inr (Or.inr ⟨hn, hl, ht⟩))
      have HL := Lib.hid hL
      have HT := Lib.hid hT
      clear h c0 c2 hL hT hd hl
      unfold spP at HT ⊢
      go_enter Try.func10, Try.ntmps10
      go_wp2_with fail
      refine HL.out.mono ?_
      rintro e w1 ⟨rfl, rfl⟩
      go_wp2_with fail
      refine (round_any n w).mono ?_
      rintro e w1 ⟨rfl, rfl⟩
      go_wp2_with fail
      refine HT.out.mono ?_
      rintro e w1 ⟨u, pgs', ub', rfl, ht, hi, hf, hs⟩
      have HI := Lib.hid (And.intro (W.out u pgs' ht) (And.intro hi (And.intro hf hs)))
      have hu : (∃ x y, u = .tuple #[.int .i64 x, .bool y]) := by
        rcases ht with ⟨p, j, us, _, _, _, _, _, rfl, _⟩ | ⟨_, ⟨p, _, _, rfl, _⟩ | ⟨_, rfl, _⟩⟩
        · exact ⟨_, _, rfl⟩
        · exact ⟨_, _, rfl⟩
        · exact ⟨_, _, rfl⟩
      obtain ⟨x, y, rfl⟩ := hu
      clear ht hi hf hs
      go_wp2
      go_ret2
      exact ⟨_, pgs', ub', rfl, HI.out.1, HI.out.2.1, HI.out.2.2.1, HI.out.2.2.2⟩

theorem info_state : (Try.prog.info? 62).map (fun i => (i.zero, i.size, i.bytes)) = some (some (.agg #[.int .i64 0, .int .i64 0, .slice none 0 0, .bool false]), 4, 48) := by kernel_rfl

theorem madeS (n : Nat) : madeCells (Value.agg #[.int .i64 0, .int .i64 0, .slice none 0 0, .bool false]).cells (n * 4) = (flat4 n fun _ => zero4).toArray := by
  apply Array.ext'
  refine flat4_ext (fun _ => rfl) (by simp [madeCells]) fun i j hi hj => ?_
  have hm : (i * 4 + j) % 4 = j := by omega
  have hlt : i * 4 + j < n * 4 := by omega
  simp only [madeCells, Value.cells, Array.getElem?_toList, Array.getElem?_map, Array.getElem?_range, hlt, if_true, Option.map_some]
  show some (#[Value.int .i64 0, .int .i64 0, .slice none 0 0, .bool false][(i * 4 + j) % 4]!) = _
  rw [hm]
  obtain rfl | rfl | rfl | rfl : j = 0 ∨ j = 1 ∨ j = 2 ∨ j = 3 := by omega
  all_goals rfl

/-- Pages that are made. -/
theorem run_make_state (n : Int) (h0 : 0 ≤ n) (h1 : n ≤ 64) (w : World) :
    (Instr.makeSlice 51 (.int .i64 n) (.int .i64 n)).run Try.prog w = .ok (.slice (some ⟨w.heap.size, 0, none⟩) n.toNat n.toNat) (w.alloc (.cells (flat4 n.toNat fun _ => zero4).toArray 62)) := by
  obtain ⟨i, hi, hz, hs, hb⟩ := info_parts info_state
  have h := run_make (P := Try.prog) w 51 62 i _ Try.underlying51 hi hz .i64 .i64 n n h0 (Int.le_refl _) (by rw [hb]; omega) (by omega)
  rw [hs, madeS] at h
  exact h

set_option maxHeartbeats 4000000 in
theorem mNew_any (f p g : Int) (w : World) :
    Calls Try.prog 8 #[.int .i64 f, .int .i64 p, .int .i64 g] w fun e w' => e = .returned (spP (w.heap.size + 1)) ∧
      IsSp w' (w.heap.size + 1) w.heap.size (fun _ => 0) (cutI f 0 1048576) (cutI g 1 256) (List.replicate (cutI p 0 64).toNat .free) (List.replicate (cutI p 0 64).toNat false) ∧ Below w.heap.size w w' := by
  have hF := nearest_any f 0 1048576 w (by omega)
  have hP := nearest_any p 0 64 w (by omega)
  have hG := nearest_any g 1 256 w (by omega)
  have iF := cutI_in (n := f) (l := 0) (m := 1048576) (by omega)
  have iP := cutI_in (n := p) (l := 0) (m := 64) (by omega)
  have iG := cutI_in (n := g) (l := 1) (m := 256) (by omega)
  obtain ⟨F, eF⟩ : ∃ F, cutI f 0 1048576 = F := ⟨_, rfl⟩
  obtain ⟨P, eP⟩ : ∃ P, cutI p 0 64 = P := ⟨_, rfl⟩
  obtain ⟨G, eG⟩ : ∃ G, cutI g 1 256 = G := ⟨_, rfl⟩
  rw [eF] at hF iF ⊢
  rw [eP] at hP iP ⊢
  rw [eG] at hG iG ⊢
  clear eF eP eG
  obtain ⟨N, rfl⟩ : ∃ N : Nat, P = N := ⟨P.toNat, by omega⟩
  have hmk := run_make_state N (by omega) (by omega)
  rw [Int.toNat_natCast] at hmk ⊢
  have HF := Lib.hid hF
  have HP := Lib.hid hP
  have HG := Lib.hid hG
  have no : ∀ (i : Nat) (x : Pg), (List.replicate N Pg.free)[i]? = some x → x = .free := fun i x h => by
    rw [List.getElem?_replicate] at h
    split at h
    · cases h; rfl
    · cases h
  have NO := Lib.hid no
  clear hF hP hG no
  go_enter Try.func8, Try.ntmps8
  go_wp2_with fail
  refine HF.out.mono ?_
  rintro e w1 ⟨rfl, rfl⟩
  go_wp2_with fail
  refine HG.out.mono ?_
  rintro e w1 ⟨rfl, rfl⟩
  go_wp2_with fail
  refine HP.out.mono ?_
  rintro e w1 ⟨rfl, rfl⟩
  go_wp2
  go_ret
  refine ⟨rfl, ⟨?_, ?_, fun i x hx hf => ?_, fun i j x y hx hy hf => ?_, fun i hi => ?_, (Rel.new F G N).wf, by rw [List.length_replicate, List.length_replicate], iF.1, iF.2, iG.1, iG.2, by rw [List.length_replicate]; omega⟩, ((Below.refl _ _).alloc (Nat.le_refl _) _).alloc (by simp) _⟩
  · rw [List.length_replicate]
    have h := Blk.new (w.alloc (.cells (flat4 N fun _ => zero4).toArray 62)) #[.int .i64 F, .int .i64 G, .slice (some ⟨w.heap.size, 0, none⟩) N N] 53
    have e : (w.alloc (.cells (flat4 N fun _ => zero4).toArray 62)).heap.size = w.heap.size + 1 := by simp
    rw [e] at h
    exact h
  · rw [List.length_replicate]
    have e : flat4 N (stF G (List.replicate N .free) (fun _ => 0) (List.replicate N false)) = flat4 N fun _ => zero4 := flat4_congr fun i hi => by
      rw [stF_at (x := .free) (q := false) (by rw [List.getElem?_replicate, if_pos hi]) (by rw [List.getElem?_replicate, if_pos hi])]
      rfl
    rw [e]
    exact (Blk.new w _ _).alloc _
  · rw [NO.out i x hx] at hf; cases hf
  · rw [NO.out i x hx] at hf; cases hf
  · rw [List.getElem?_replicate] at hi
    split at hi
    · cases hi
    · cases hi

/-- The program's space has all that is asked of it. -/
def mat : MatSpec where
  Is w b S F G pgs ps := ∃ pb ub, IsSp w b pb ub F G pgs ps ∧ S = SpS b pb ub pgs
  lt := fun ⟨pb, ub, h, e⟩ k hk => by subst e; exact h.lt k hk
  wf := fun ⟨pb, ub, h, e⟩ => ⟨h.wf, h.len, h.g0, h.g1, h.f0, h.f1, h.p1⟩
  stay := fun ⟨pb, ub, h, e⟩ _ hb => by subst e; exact ⟨pb, ub, h.stay hb, rfl⟩
  new := fun f p g w => (mNew_any f p g w).mono fun e w' ⟨he, hi, hb⟩ => ⟨_, _, he, ⟨_, _, hi, rfl⟩, hb, fun k hk => by
    rcases hk with rfl | rfl | ⟨i, x, hx, hf, rfl⟩
    · omega
    · exact Nat.le_refl _
    · rw [List.getElem?_replicate] at hx
      split at hx
      · cases hx; cases hf
      · cases hx⟩
  take := fun n ⟨pb, ub, h, e⟩ _ n1 => by
    subst e
    exact (mTake_any _ pb ub _ _ _ _ n _ h n1).mono fun e w' ⟨u, pgs', ub', he, ht, hi, hf, hs⟩ => ⟨u, pgs', _, he, ht, ⟨pb, ub', hi, rfl⟩, hf, hs⟩
  give := fun n ⟨pb, ub, h, e⟩ n0 n1 => by
    subst e
    refine (mGive_any _ pb ub _ _ _ _ n _ h n0 n1).mono fun e w' ⟨ok, pgs', ps', he, ht, hi, hf⟩ => ⟨ok, pgs', ps', _, he, ht, ⟨pb, ub, hi, rfl⟩, hf, fun k hk => ?_⟩
    rcases hk with rfl | rfl | ⟨i, x, hx, hfx, rfl⟩
    · exact Or.inl (Or.inl rfl)
    · exact Or.inl (Or.inr (Or.inl rfl))
    · refine Or.inl (Or.inr (Or.inr ?_))
      rcases ht with ⟨_, _, rfl, _⟩ | ⟨p, j, s, us, hp, _, _, _, ⟨_, rfl, _⟩ | ⟨_, rfl, _⟩⟩ | ⟨p, c, hp, _, _, rfl, _⟩
      · exact ⟨i, x, hx, hfx, rfl⟩
      · by_cases ei : i = p
        · subst ei; exact ⟨i, _, hp, rfl, rfl⟩
        · rw [List.getElem?_set_ne (by omega)] at hx; exact ⟨i, x, hx, hfx, rfl⟩
      · by_cases ei : i = p
        · subst ei; exact ⟨i, _, hp, rfl, rfl⟩
        · rw [List.getElem?_set_ne (by omega)] at hx; exact ⟨i, x, hx, hfx, rfl⟩
      · have hi2 := (List.getElem?_eq_some_iff.1 hx).1
        rw [fill_length] at hi2
        rw [fill_at _ _ _ _ _ hi2] at hx
        split at hx
        · cases hx; cases hfx
        · exact ⟨i, x, hx, hfx, rfl⟩
  size := fun n ⟨pb, ub, h, e⟩ n0 n1 => mSize_any _ pb ub _ _ _ _ n _ h n0 n1
  starts := fun f t ⟨pb, ub, h, e⟩ _ _ _ _ => mStarts_any _ pb ub _ _ _ _ f t _ h
  pend := fun ⟨pb, ub, h, e⟩ => by
    subst e
    exact (mPend_any _ pb ub _ _ _ _ _ h).mono fun e w' ⟨he, hi, hf⟩ => ⟨_, he, ⟨pb, ub, hi, rfl⟩, hf.mono (fun i _ hi => Or.inr (Or.inl hi)), fun k hk => Or.inl hk⟩
  pending := fun ⟨pb, ub, h, e⟩ => mPending_any _ pb ub _ _ _ _ _ h
  done := fun n ⟨pb, ub, h, e⟩ _ _ => by
    subst e
    exact (mDone_any _ pb ub _ _ _ _ n _ h).mono fun e w' ⟨he, hi, hf⟩ => ⟨_, he, ⟨pb, ub, hi, rfl⟩, hf.mono (fun i _ hi => Or.inr (Or.inl hi)), fun k hk => Or.inl hk⟩
  page := fun n ⟨pb, ub, h, e⟩ _ _ => mPage_any _ pb ub _ _ _ _ n _ h
  free := fun ⟨pb, ub, h, e⟩ => mFree_any _ pb ub _ _ _ _ _ h
  used := fun ⟨pb, ub, h, e⟩ => mUsed_any _ pb ub _ _ _ _ _ h
end Go.Proofs.Ytinoeofimajpdaa
