/- The walk of MatureAgain. -/
import Derived.Test.YtinoeofimajpdaaAgA
import Derived.Test.YtinoeofimajpdaaPlaysB
namespace Go.Proofs.Ytinoeofimajpdaa
open Go.RowKit

/-- What is known as the list grows. -/
def AgI (M : MatSpec) (w wr : World) (b : Nat) (G n : Int) (pgs : List Pg) (lv : Value) (ys : List Int) : Prop :=
  Sol M w wr b 7 G (List.replicate 3 false) pgs lv ys ∧ ys.Perm (usedP 7 G pgs) ∧ Uni G n pgs

theorem AgI.few {M : MatSpec} {w wr : World} {b : Nat} {G n : Int} {pgs : List Pg} {lv : Value} {ys : List Int} (h : AgI M w wr b G n pgs lv ys) (g1 : G ≤ 75) : ys.length ≤ 54 := by
  obtain ⟨wf, len, _⟩ := h.1.wf
  have := used_few (F := 7) g1 wf
  rw [h.2.1.length_eq]
  rw [List.length_replicate] at len
  rw [len] at this
  exact this

theorem place_in {M : MatSpec} {w wr : World} {b : Nat} {F G : Int} {ps : List Bool} {pgs : List Pg} {lv : Value} {ys : List Int} (h : Sol M w wr b F G ps pgs lv ys) {y : Int} (hy : y ∈ usedP F G pgs) : F ≤ y ∧ y < F + pgs.length * G := by
  obtain ⟨wf, len, g0, _⟩ := h.wf
  obtain ⟨c, hc, rfl, _⟩ := usedP_mem hy
  obtain ⟨i, x, hx, hcx⟩ := mem_cellsP.1 hc
  have w1 := cells_within g0 wf hc
  have := (cell_pages g0 wf hx hcx).1
  have hi := (List.getElem?_eq_some_iff.1 hx).1
  refine ⟨w1.1, ?_⟩
  unfold ofI at this
  rw [tdiv_of (by omega)] at this
  have h1 := Int.mul_ediv_add_emod (c.pos - F) G
  have h2 := Int.emod_lt_of_pos (c.pos - F) (show 0 < G by omega)
  have h3 := Int.mul_le_mul_of_nonneg_right (show (i : Int) + 1 ≤ pgs.length by omega) (show 0 ≤ G by omega)
  rw [this, Int.mul_comm] at h1
  rw [Int.add_mul, Int.one_mul] at h3
  omega

set_option maxHeartbeats 16000000 in
set_option maxRecDepth 100000 in
theorem matureAgain_walk (M : MatSpec) (x y z : Int) (w : World) (x0 : 0 ≤ x) (y0 : 0 ≤ y) (z0 : 0 ≤ z) (z1 : z ≤ 255) :
    Calls Try.prog 7 #[.int .u8 x, .int .u8 y, .int .u8 z] w fun e w' => e = .returned (.bool true) ∧ Below w.heap.size w w' := by
  have e1 : x.tmod 60 = x % 60 := Int.tmod_eq_emod_of_nonneg x0
  have e2 : y.tmod 40 = y % 40 := Int.tmod_eq_emod_of_nonneg y0
  obtain ⟨g, hg⟩ : ∃ g, x % 60 = g := ⟨_, rfl⟩
  obtain ⟨sz, hs⟩ : ∃ sz, y % 40 = sz := ⟨_, rfl⟩
  have g59 : 0 ≤ g ∧ g ≤ 59 := by omega
  have s39 : 0 ≤ sz ∧ sz ≤ 39 := by omega
  rw [hg] at e1
  rw [hs] at e2
  clear hg hs
  obtain ⟨i0, hi0, hz, hsz, hb⟩ := info_parts info_int
  have HI0 := Lib.hid (And.intro hi0 (And.intro hz (And.intro hsz hb)))
  clear hi0 hz hsz hb
  go_enter Try.func7, Try.ntmps7
  go_wp2_with fail
  refine (M.new 7 3 (g + 16) w).mono ?_
  rintro e w1 ⟨b, S, rfl, h1, b1, s1⟩
  have q1 : cutI 7 0 1048576 = 7 := by decide
  have q2 : cutI 3 0 64 = 3 := by decide
  have q3 : cutI (g + 16) 1 256 = g + 16 := by unfold cutI; rw [if_neg (by omega), if_neg (by omega)]
  rw [q1, q2, q3, show (3 : Int).toNat = 3 from rfl] at h1
  clear q1 q2 q3
  obtain ⟨G, hG⟩ : ∃ G, g + 16 = G := ⟨_, rfl⟩
  have GI : 16 ≤ G ∧ G ≤ 75 := by omega
  rw [hG] at h1
  have HS := Lib.hid (show AgI M w (w1.alloc (.cells #[] 3)) b G (sz + 1) (List.replicate 3 .free) (.slice (some ⟨w1.heap.size, 0, none⟩) 0 0) [] from by
    have bA := (Below.refl w1.heap.size w1).alloc (Nat.le_refl _) (.cells #[] 3)
    have o := own_nil w1
    refine ⟨⟨S, M.keep h1 bA, s1, b1.trans (bA.mono b1.size), ⟨o.1, ?_⟩, fun k hk e => ?_⟩, ?_, Uni.new G _ 3⟩
    · rcases o.2 with q | ⟨g, cap, cur, e1, e2, e3⟩
      · exact Or.inl q
      · exact Or.inr ⟨g, cap, cur, e1, Nat.le_trans b1.size e2, e3⟩
    · have := M.lt h1 k hk
      have : w1.heap.size = k := by simpa [Value.ownBlock] using e
      omega
    · have := (Rel.new 7 G 3).perm
      rw [usedP, List.nil_perm.1 this]
      exact List.Perm.refl _)
  clear h1 b1 s1
  have NV := Lib.hid hG
  unfold spP
  go_wp2_with fail
  go_loopw [9, 10] (fun s9 s10 wr => ∃ (i : Nat) (ys : List Int) (pgs : List Pg), s10 = .int .i64 i ∧ ys.length = i ∧ i ≤ 54 ∧ Hid (AgI M w wr b G (sz + 1) pgs s9 ys)) (fun _ s10 _ => 100 - (intOf s10).toNat)
  case atStart => exact ⟨0, [], _, rfl, rfl, by omega, HS⟩
  case round =>
    clear HS
    obtain ⟨i, ys, pgs, rfl, yl, i54, HS⟩ := hrel
    obtain ⟨lo, lcap, hlv, hat0⟩ := HS.out.1.own.at_
    rw [yl] at hlv
    subst hlv
    have YL := Lib.hid yl
    have AT := Lib.hid hat0
    clear yl hat0
    go_wp2_with fail
    refine (sTake HS.out.1 (sz + 1) (by omega) (by omega)).mono ?_
    rintro e v1 ⟨u, pgs1, rfl, t1, h1⟩
    obtain ⟨wf0, len0, _, _, _, _, _⟩ := HS.out.1.wf
    rcases take_cases t1 with ⟨rfl, rfl⟩ | ⟨xx, rfl⟩
    · have H1 := Lib.hid (And.intro h1 (And.intro HS.out.2 (And.intro t1 wf0)))
      rw [List.length_replicate] at len0
      have L3 := Lib.hid len0
      clear HS h1 t1 wf0 len0
      unfold noV
      by_cases i0 : i = 0
      · subst i0
        go_wp2_with fail
        refine (awake5_any M v1).mono ?_
        rintro e v2 ⟨rfl, b2⟩
        go_wp2
        go_ret
        exact ⟨rfl, below_trans H1.out.1.below b2⟩
      · have i1 : 0 < i := by omega
        obtain ⟨k, hk⟩ : ∃ k : Nat, z % (i : Int) = k := ⟨(z % (i : Int)).toNat, by have := Int.emod_nonneg z (show (i : Int) ≠ 0 by omega); omega⟩
        have klt : (k : Int) < i := by have := Int.emod_lt_of_pos z (show (0 : Int) < i by omega); omega
        have ez : z.tmod (i : Int) = (k : Int) := by rw [Int.tmod_eq_emod_of_nonneg z0, hk]
        clear hk
        have kl : k < ys.length := by have := YL.out; omega
        obtain ⟨yy, hy⟩ : ∃ yy, ys[k]? = some yy := ⟨_, List.getElem?_eq_getElem kl⟩
        have ym : yy ∈ usedP 7 G pgs1 := H1.out.2.1.1.mem_iff.1 (List.mem_of_getElem? hy)
        have yin := place_in H1.out.1 ym
        rw [L3.out] at yin
        have HY := Lib.hid hy
        have cellL : ∀ (v : World) (qs : List Bool) (pg : List Pg), Sol M w v b 7 G qs pg (.slice lo i lcap) ys → ∃ gl, lo = some ⟨gl, 0, none⟩ ∧ v.cell? ⟨gl, k, none⟩ = some (.int .i64 yy) := fun v qs pg hs => by
          obtain ⟨lo', lcap', e, hat⟩ := hs.own.at_
          injection e with e1 e2 e3
          obtain ⟨gl, e4, _, _, lc, _⟩ := hat k yy HY.out
          exact ⟨gl, e1.trans e4, lc k yy HY.out⟩
        have CL := Lib.hid cellL
        obtain ⟨gl, hlo, l0⟩ := CL.out _ _ _ H1.out.1
        subst hlo
        have YM := Lib.hid ym
        have k0 : (0 : Int) ≤ (k : Int) := by omega
        clear cellL hy ym AT
        go_wp2_with fail
        refine (sGive H1.out.1 yy (by omega) (by omega)).mono ?_
        rintro e v2 ⟨ok, pgs2, ps2, rfl, t2, h2⟩
        obtain rfl := give_ok t2 YM.out
        obtain ⟨ta, rfl⟩ := Uni.again H1.out.2.2.2 H1.out.2.1.2 (show ¬ sz + 1 < 1 by omega) (fun i hi => by rw [L3.out] at hi; rw [List.getElem?_replicate, if_pos hi]) H1.out.2.2.1 t2
        have H2 := Lib.hid h2
        have TA := Lib.hid ta
        clear t2 h2 ta l0
        go_wp2_with fail
        refine (sTake H2.out (sz + 1) (by omega) (by omega)).mono ?_
        rintro e v3 ⟨u, pgs3, rfl, t3, h3⟩
        obtain ⟨rfl, rfl⟩ := t3.one TA.out
        have H3 := Lib.hid h3
        clear t3 h3 H2 TA
        unfold yesV
        go_wp2_with fail
        refine (sTake H3.out (sz + 1) (by omega) (by omega)).mono ?_
        rintro e v4 ⟨u, pgs4, rfl, t4, h4⟩
        obtain ⟨rfl, rfl⟩ := t4.one H1.out.2.2.1
        have H4 := Lib.hid h4
        clear t4 h4 H3
        unfold noV
        go_wp2_with fail
        refine (awake5_any M v4).mono ?_
        rintro e v5 ⟨rfl, b5⟩
        have H5 := Lib.hid (H4.out.keep b5)
        obtain ⟨gl', hlo, l5⟩ := CL.out _ _ _ H5.out
        cases hlo
        clear H4 b5
        go_wp2
        go_ret
        exact ⟨rfl, H5.out.below⟩
    · obtain ⟨up, wf1, _⟩ := take_used (by omega) (by omega) wf0 t1
      have UN := Lib.hid (HS.out.2.2.take (by omega) t1)
      have UP := Lib.hid (show (ys ++ [xx]).Perm (usedP 7 G pgs1) from (List.perm_append_singleton xx ys).trans ((HS.out.2.1.cons xx).trans up.symm))
      have O2 := Lib.hid (h1.own.alloc (.cells #[.int .i64 xx] 3))
      have S2 := Lib.hid (h1.keep ((Below.refl _ _).alloc (Nat.le_refl _) (.cells #[.int .i64 xx] 3)))
      have B2 : w.heap.size ≤ v1.heap.size := h1.below.size
      have yb : ys.length ≤ 54 := by rw [YL.out]; exact i54
      clear HS h1 t1 wf0 wf1 up len0 AT
      unfold yesV
      go_wp2_with (first
        | (at_builtin; refine wpList_append_own_at _ rfl _ _ 36 rfl w.heap.size 3 i0 (.int .i64 0) 1 8 Try.underlying36 HI0.out.1 HI0.out.2.1 HI0.out.2.2.1 HI0.out.2.2.2 rfl (by decide) _ _ _ rfl O2.out ⟨v1.heap.size, 0, none⟩ 1 1 [.int .i64 xx] rfl rfl (cell_one_new _ _ _) ?c2 ?c3 ?c4 ?c5 ?_)
        | fail)
      case c2 => intro q hq; simp at hq; subst hq; rfl
      case c3 => unfold maxLen; omega
      case c4 => omega
      case c5 => simp; omega
      intro v5 w5 hown5 hgrow5 _ hat5
      have H5 := Lib.hid (show AgI M w w5 b G (sz + 1) pgs1 v5 (ys ++ [xx]) from ⟨S2.out.app hgrow5 hown5 (by simpa using hat5), UP.out, UN.out⟩)
      have few := H5.out.few GI.2
      rw [List.length_append, List.length_singleton, YL.out] at few
      clear hown5 hgrow5 hat5 O2 S2
      go_wp2
      go_roundw
      case rel => exact ⟨i + 1, ys ++ [xx], pgs1, by go_num, by rw [List.length_append, List.length_singleton, YL.out], by omega, H5⟩
      case measure => simp [intOf]; omega
end Go.Proofs.Ytinoeofimajpdaa
