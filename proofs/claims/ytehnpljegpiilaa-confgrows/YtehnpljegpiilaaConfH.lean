/- The walk of ConfGrows. -/
import Derived.Test.YtehnpljegpiilaaConfE
namespace Go.Proofs.Ytehnpljegpiilaa
open Go.RowKit

theorem clI_mono {x y lg : Int} (h : x ≤ y) (hl : 0 ≤ lg) : clI x lg ≤ clI y lg := by
  unfold clI
  by_cases h1 : x < 0
  · rw [if_pos h1]
    split
    · omega
    · split <;> omega
  · rw [if_neg h1, if_neg (show ¬ y < 0 by omega)]
    by_cases h2 : lg < x
    · rw [if_pos h2, if_pos (by omega)]; omega
    · rw [if_neg h2]; split <;> omega

theorem most_mono {ha nu pz st lg mi mi' ma f f' : Int} (hf : f ≤ f') (hm : mi ≤ mi') (ha0 : 1 ≤ ha) (nu0 : 8 ≤ nu) (pz0 : 16 ≤ pz) (st0 : 1 ≤ st) (lg0 : 0 ≤ lg) (mi0 : 0 ≤ mi) (ma0 : 0 ≤ ma) :
    mostI ha nu pz st lg mi ma f ≤ mostI ha nu pz st lg mi' ma f' := by
  unfold mostI
  have c0 := (clI_in f lg lg0).1
  have c1 := clI_mono hf lg0
  generalize clI f lg = c at *
  generalize clI f' lg = c' at *
  have p1 : (c + 2) * (mi + ma) ≤ (c' + 2) * (mi' + ma) := Int.mul_le_mul (by omega) (by omega) (by omega) (by omega)
  have z1 : 0 ≤ (c + 2) * (mi + ma) := Int.mul_nonneg (by omega) (by omega)
  generalize (c + 2) * (mi + ma) = x1 at *
  generalize (c' + 2) * (mi' + ma) = y1 at *
  have p2 : (x1 + 8) * pz ≤ (y1 + 8) * pz := Int.mul_le_mul (by omega) (by omega) (by omega) (by omega)
  have z2 : 0 ≤ (x1 + 8) * pz := Int.mul_nonneg (by omega) (by omega)
  generalize (x1 + 8) * pz = x2 at *
  generalize (y1 + 8) * pz = y2 at *
  have p3 : (x2 + (ha + st + 4 * nu)) * (lg + 4) ≤ (y2 + (ha + st + 4 * nu)) * (lg + 4) := Int.mul_le_mul (by omega) (by omega) (by omega) (by omega)
  have z3 : 0 ≤ (x2 + (ha + st + 4 * nu)) * (lg + 4) := Int.mul_nonneg (by omega) (by omega)
  exact Int.mul_le_mul p3 (by omega) (by omega) (by omega)

theorem May.minor {ha nu ps pz cd bf st tn lg mi ma na ja m : Int} (h : May ha nu ps pz cd bf st tn lg mi ma na ja) (h0 : 0 ≤ m) (h1 : m ≤ 64) : May ha nu ps pz cd bf st tn lg (m) ma na ja :=
  { h with mi0 := h0, mi1 := h1 }

theorem May.pages {ha nu ps pz cd bf st tn lg mi ma na ja g : Int} (h : May ha nu ps pz cd bf st tn lg mi ma na ja) (h0 : 0 ≤ g) (h1 : g ≤ 64) : May ha nu (g) pz cd bf st tn lg mi ma na (0) :=
  { h with ps0 := h0, ps1 := h1, ja0 := Int.le_refl 0, ja1 := h0 }

set_option maxHeartbeats 4000000 in
set_option maxRecDepth 100000 in
theorem confGrows_walk (ha nu ps pz cd bf st tn lg mi ma na ja a b t g : Int) (t0 : 0 ≤ t) (t1 : t ≤ 255) (g0 : 0 ≤ g) (g1 : g ≤ 255) (w : World) :
    Calls Try.prog 6 #[cfV ha nu ps pz cd bf st tn lg mi ma na ja, .int .i64 a, .int .i64 b, .int .u8 t, .int .u8 g] w fun e w' => e = .returned (.bool true) ∧ Below w.heap.size w w' := by
  have hC := check_any ha nu ps pz cd bf st tn lg mi ma na ja
  cases hm : mayB ha nu ps pz cd bf st tn lg mi ma na ja
  · rw [hm] at hC
    have HC := Lib.hid hC
    clear hC hm
    go_enter Try.func6, Try.ntmps6
    go_wp2_with fail
    refine (HC.out _).mono ?_
    rintro e w1 ⟨rfl, b1⟩
    rw [show errI false = 1 from rfl]
    go_wp2_with fail
    refine (awake3_any _).mono ?_
    rintro e w2 ⟨rfl, b2⟩
    go_wp2
    go_ret
    exact ⟨rfl, below_trans (below_alloc_trans _ b1) b2⟩
  · rw [hm] at hC
    have h := (mayB_iff ..).1 hm
    have HC := Lib.hid hC
    clear hC hm
    go_enter Try.func6, Try.ntmps6
    go_wp2_with fail
    refine (HC.out _).mono ?_
    rintro e w1 ⟨rfl, b1⟩
    rw [show errI true = 0 from rfl]
    have kk := (Blk.new w _ _).keep b1
    have bb := below_alloc_trans _ b1
    clear b1
    obtain ⟨q0, q1, q2, q3, q4, q5, q6, q7, q8, q9, q10, q11, q12⟩ := kk.thirteen
    go_upto_if 19 with (fail)
    go_cut [1, 2] (fun s1 s2 wc => ∃ x y : Int, s1 = .int .i64 x ∧ s2 = .int .i64 y ∧ x ≤ y ∧ w1 = wc)
    case first =>
      by_cases hab : a > b
      · go_wp2
        go_meet
        case rel => exact ⟨b, a, rfl, rfl, by omega, rfl⟩
      · go_wp2
        go_meet
        case rel => exact ⟨a, b, rfl, rfl, by omega, rfl⟩
    case rest =>
    obtain ⟨x, y, rfl, rfl, hxy, rfl⟩ := hcut
    have hlt : w.heap.size < w1.heap.size := kk.lt
    obtain ⟨G, hG⟩ : ∃ G, g % 65 = G := ⟨_, rfl⟩
    obtain ⟨T, hT⟩ : ∃ T, t % 65 = T := ⟨_, rfl⟩
    have h1 := fun w => most_any ha nu ps pz cd bf st tn lg mi ma na ja x w h
    have h2 := fun w => most_any ha nu ps pz cd bf st tn lg mi ma na ja y w h
    have hg := h.pages (g := G) (by omega) (by omega)
    have h4 := fun w => most_any ha nu G pz cd bf st tn lg mi ma na (0) x w hg
    have hP := check_any ha nu G pz cd bf st tn lg mi ma na (0)
    rw [(mayB_iff ..).2 hg] at hP
    have hP : ∀ w, Calls Try.prog 9 #[cfV ha nu G pz cd bf st tn lg mi ma na (0)] w fun e w' => e = .returned (.int .i64 0) ∧ Below w.heap.size w w' := hP
    have i12 := most_mono hxy (Int.le_refl mi) h.ha0 h.nu0 h.pz0 h.st0 h.lg0 h.mi0 h.ma0
    have H4 := Lib.hid h4
    have HP := Lib.hid hP
    clear h4 hP hg
    by_cases hx : T < mi
    · have H1 := Lib.hid h1
      have H2 := Lib.hid h2
      clear h1 h2 h
      generalize mostI ha nu pz st lg mi ma x = M1 at *
      generalize mostI ha nu pz st lg mi ma y = M2 at *
      go_wp2_with fail
      have kc := (kk.alloc (.cells #[.int .i64 ha, .int .i64 nu, .int .i64 ps, .int .i64 pz, .int .i64 cd, .int .i64 bf, .int .i64 st, .int .i64 tn, .int .i64 lg, .int .i64 mi, .int .i64 ma, .int .i64 na, .int .i64 ja] 23)).alloc (.cells #[.int .i64 ha, .int .i64 nu, .int .i64 G, .int .i64 pz, .int .i64 cd, .int .i64 bf, .int .i64 st, .int .i64 tn, .int .i64 lg, .int .i64 mi, .int .i64 ma, .int .i64 na, .int .i64 (0)] 23)
      have kK := (Blk.new w1 #[.int .i64 ha, .int .i64 nu, .int .i64 ps, .int .i64 pz, .int .i64 cd, .int .i64 bf, .int .i64 st, .int .i64 tn, .int .i64 lg, .int .i64 mi, .int .i64 ma, .int .i64 na, .int .i64 ja] 23).alloc (.cells #[.int .i64 ha, .int .i64 nu, .int .i64 G, .int .i64 pz, .int .i64 cd, .int .i64 bf, .int .i64 st, .int .i64 tn, .int .i64 lg, .int .i64 mi, .int .i64 ma, .int .i64 na, .int .i64 (0)] 23)
      have kP : Blk ((w1.alloc (.cells #[.int .i64 ha, .int .i64 nu, .int .i64 ps, .int .i64 pz, .int .i64 cd, .int .i64 bf, .int .i64 st, .int .i64 tn, .int .i64 lg, .int .i64 mi, .int .i64 ma, .int .i64 na, .int .i64 ja] 23)).alloc (.cells #[.int .i64 ha, .int .i64 nu, .int .i64 G, .int .i64 pz, .int .i64 cd, .int .i64 bf, .int .i64 st, .int .i64 tn, .int .i64 lg, .int .i64 mi, .int .i64 ma, .int .i64 na, .int .i64 (0)] 23)) (w1.heap.size + 1) #[.int .i64 ha, .int .i64 nu, .int .i64 G, .int .i64 pz, .int .i64 cd, .int .i64 bf, .int .i64 st, .int .i64 tn, .int .i64 lg, .int .i64 mi, .int .i64 ma, .int .i64 na, .int .i64 (0)] 23 := by
        have := Blk.new (w1.alloc (.cells #[.int .i64 ha, .int .i64 nu, .int .i64 ps, .int .i64 pz, .int .i64 cd, .int .i64 bf, .int .i64 st, .int .i64 tn, .int .i64 lg, .int .i64 mi, .int .i64 ma, .int .i64 na, .int .i64 ja] 23)) #[.int .i64 ha, .int .i64 nu, .int .i64 G, .int .i64 pz, .int .i64 cd, .int .i64 bf, .int .i64 st, .int .i64 tn, .int .i64 lg, .int .i64 mi, .int .i64 ma, .int .i64 na, .int .i64 (0)] 23
        simpa using this
      have bb := (bb.alloc bb.size (.cells #[.int .i64 ha, .int .i64 nu, .int .i64 ps, .int .i64 pz, .int .i64 cd, .int .i64 bf, .int .i64 st, .int .i64 tn, .int .i64 lg, .int .i64 mi, .int .i64 ma, .int .i64 na, .int .i64 ja] 23)).alloc (by have := bb.size; simp; omega) (.cells #[.int .i64 ha, .int .i64 nu, .int .i64 G, .int .i64 pz, .int .i64 cd, .int .i64 bf, .int .i64 st, .int .i64 tn, .int .i64 lg, .int .i64 mi, .int .i64 ma, .int .i64 na, .int .i64 (0)] 23)
      clear q0 q1 q2 q3 q4 q5 q6 q7 q8 q9 q10 q11 q12 kk
      generalize (w1.alloc (.cells #[.int .i64 ha, .int .i64 nu, .int .i64 ps, .int .i64 pz, .int .i64 cd, .int .i64 bf, .int .i64 st, .int .i64 tn, .int .i64 lg, .int .i64 mi, .int .i64 ma, .int .i64 na, .int .i64 ja] 23)).alloc (.cells #[.int .i64 ha, .int .i64 nu, .int .i64 G, .int .i64 pz, .int .i64 cd, .int .i64 bf, .int .i64 st, .int .i64 tn, .int .i64 lg, .int .i64 mi, .int .i64 ma, .int .i64 na, .int .i64 (0)] 23) = W at kc kK kP bb ⊢
      have kc := kc.drew
      have kK := kK.drew
      have kP := kP.drew
      have bb := bb.drew
      go_region_held3 (fun w' => (w'.cell? ⟨w.heap.size, 0, none⟩ = some (.int .i64 ha) ∧ w'.cell? ⟨w.heap.size, 1, none⟩ = some (.int .i64 nu) ∧ w'.cell? ⟨w.heap.size, 2, none⟩ = some (.int .i64 ps) ∧ w'.cell? ⟨w.heap.size, 3, none⟩ = some (.int .i64 pz) ∧ w'.cell? ⟨w.heap.size, 4, none⟩ = some (.int .i64 cd) ∧ w'.cell? ⟨w.heap.size, 5, none⟩ = some (.int .i64 bf) ∧ w'.cell? ⟨w.heap.size, 6, none⟩ = some (.int .i64 st) ∧ w'.cell? ⟨w.heap.size, 7, none⟩ = some (.int .i64 tn) ∧ w'.cell? ⟨w.heap.size, 8, none⟩ = some (.int .i64 lg) ∧ w'.cell? ⟨w.heap.size, 9, none⟩ = some (.int .i64 mi) ∧ w'.cell? ⟨w.heap.size, 10, none⟩ = some (.int .i64 ma) ∧ w'.cell? ⟨w.heap.size, 11, none⟩ = some (.int .i64 na) ∧ w'.cell? ⟨w.heap.size, 12, none⟩ = some (.int .i64 ja)) ∧ (w'.cell? ⟨w1.heap.size, 0, none⟩ = some (.int .i64 ha) ∧ w'.cell? ⟨w1.heap.size, 1, none⟩ = some (.int .i64 nu) ∧ w'.cell? ⟨w1.heap.size, 2, none⟩ = some (.int .i64 ps) ∧ w'.cell? ⟨w1.heap.size, 3, none⟩ = some (.int .i64 pz) ∧ w'.cell? ⟨w1.heap.size, 4, none⟩ = some (.int .i64 cd) ∧ w'.cell? ⟨w1.heap.size, 5, none⟩ = some (.int .i64 bf) ∧ w'.cell? ⟨w1.heap.size, 6, none⟩ = some (.int .i64 st) ∧ w'.cell? ⟨w1.heap.size, 7, none⟩ = some (.int .i64 tn) ∧ w'.cell? ⟨w1.heap.size, 8, none⟩ = some (.int .i64 lg) ∧ w'.cell? ⟨w1.heap.size, 9, none⟩ = some (.int .i64 mi) ∧ w'.cell? ⟨w1.heap.size, 10, none⟩ = some (.int .i64 ma) ∧ w'.cell? ⟨w1.heap.size, 11, none⟩ = some (.int .i64 na) ∧ w'.cell? ⟨w1.heap.size, 12, none⟩ = some (.int .i64 ja)) ∧ (w'.cell? ⟨w1.heap.size + 1, 0, none⟩ = some (.int .i64 ha) ∧ w'.cell? ⟨w1.heap.size + 1, 1, none⟩ = some (.int .i64 nu) ∧ w'.cell? ⟨w1.heap.size + 1, 2, none⟩ = some (.int .i64 G) ∧ w'.cell? ⟨w1.heap.size + 1, 3, none⟩ = some (.int .i64 pz) ∧ w'.cell? ⟨w1.heap.size + 1, 4, none⟩ = some (.int .i64 cd) ∧ w'.cell? ⟨w1.heap.size + 1, 5, none⟩ = some (.int .i64 bf) ∧ w'.cell? ⟨w1.heap.size + 1, 6, none⟩ = some (.int .i64 st) ∧ w'.cell? ⟨w1.heap.size + 1, 7, none⟩ = some (.int .i64 tn) ∧ w'.cell? ⟨w1.heap.size + 1, 8, none⟩ = some (.int .i64 lg) ∧ w'.cell? ⟨w1.heap.size + 1, 9, none⟩ = some (.int .i64 mi) ∧ w'.cell? ⟨w1.heap.size + 1, 10, none⟩ = some (.int .i64 ma) ∧ w'.cell? ⟨w1.heap.size + 1, 11, none⟩ = some (.int .i64 na) ∧ w'.cell? ⟨w1.heap.size + 1, 12, none⟩ = some (.int .i64 (0)))) (exact ⟨kc.thirteen, kK.thirteen, kP.thirteen⟩) (first
        | (go_at_call 8; refine (awake3_any _).mono ?_; rintro e v1 ⟨rfl, b2⟩; have kc := kc.keep b2; have kK := kK.keep b2; have kP := kP.keep b2; have bb := below_trans bb b2; clear b2)
        | (go_at_call 9; refine (HP.out _).mono ?_; rintro e v1 ⟨rfl, b2⟩; have kc := kc.keep b2; have kK := kK.keep b2; have kP := kP.keep b2; have bb := below_trans bb b2; clear b2)
        | (go_at_call_of 13 (Value.int .i64 G); refine (H4.out _).mono ?_; rintro e v1 ⟨rfl, b2⟩; have kc := kc.keep b2; have kK := kK.keep b2; have kP := kP.keep b2; have bb := below_trans bb b2; clear b2)
        | (go_at_call_of 13 (Value.int .i64 y); refine (H2.out _).mono ?_; rintro e v1 ⟨rfl, b2⟩; have kc := kc.keep b2; have kK := kK.keep b2; have kP := kP.keep b2; have bb := below_trans bb b2; clear b2)
        | (go_at_call_of 13 (Value.int .i64 ps); refine (H1.out _).mono ?_; rintro e v1 ⟨rfl, b2⟩; have kc := kc.keep b2; have kK := kK.keep b2; have kP := kP.keep b2; have bb := below_trans bb b2; clear b2))
      all_goals
        go_wp2
        go_ret
        exact ⟨rfl, bb⟩

    · have h3 := fun w => most_any ha nu ps pz cd bf st tn lg T ma na ja x w (h.minor (by omega) (by omega))
      have i13 := most_mono (Int.le_refl x) (show mi ≤ T by omega) h.ha0 h.nu0 h.pz0 h.st0 h.lg0 h.mi0 h.ma0
      have H1 := Lib.hid h1
      have H2 := Lib.hid h2
      have H3 := Lib.hid h3
      clear h1 h2 h3 h
      generalize mostI ha nu pz st lg mi ma x = M1 at *
      generalize mostI ha nu pz st lg mi ma y = M2 at *
      generalize mostI ha nu pz st lg T ma x = M3 at *
      go_wp2_with fail
      have kc := (kk.alloc (.cells #[.int .i64 ha, .int .i64 nu, .int .i64 ps, .int .i64 pz, .int .i64 cd, .int .i64 bf, .int .i64 st, .int .i64 tn, .int .i64 lg, .int .i64 T, .int .i64 ma, .int .i64 na, .int .i64 ja] 23)).alloc (.cells #[.int .i64 ha, .int .i64 nu, .int .i64 G, .int .i64 pz, .int .i64 cd, .int .i64 bf, .int .i64 st, .int .i64 tn, .int .i64 lg, .int .i64 mi, .int .i64 ma, .int .i64 na, .int .i64 (0)] 23)
      have kK := (Blk.new w1 #[.int .i64 ha, .int .i64 nu, .int .i64 ps, .int .i64 pz, .int .i64 cd, .int .i64 bf, .int .i64 st, .int .i64 tn, .int .i64 lg, .int .i64 T, .int .i64 ma, .int .i64 na, .int .i64 ja] 23).alloc (.cells #[.int .i64 ha, .int .i64 nu, .int .i64 G, .int .i64 pz, .int .i64 cd, .int .i64 bf, .int .i64 st, .int .i64 tn, .int .i64 lg, .int .i64 mi, .int .i64 ma, .int .i64 na, .int .i64 (0)] 23)
      have kP : Blk ((w1.alloc (.cells #[.int .i64 ha, .int .i64 nu, .int .i64 ps, .int .i64 pz, .int .i64 cd, .int .i64 bf, .int .i64 st, .int .i64 tn, .int .i64 lg, .int .i64 T, .int .i64 ma, .int .i64 na, .int .i64 ja] 23)).alloc (.cells #[.int .i64 ha, .int .i64 nu, .int .i64 G, .int .i64 pz, .int .i64 cd, .int .i64 bf, .int .i64 st, .int .i64 tn, .int .i64 lg, .int .i64 mi, .int .i64 ma, .int .i64 na, .int .i64 (0)] 23)) (w1.heap.size + 1) #[.int .i64 ha, .int .i64 nu, .int .i64 G, .int .i64 pz, .int .i64 cd, .int .i64 bf, .int .i64 st, .int .i64 tn, .int .i64 lg, .int .i64 mi, .int .i64 ma, .int .i64 na, .int .i64 (0)] 23 := by
        have := Blk.new (w1.alloc (.cells #[.int .i64 ha, .int .i64 nu, .int .i64 ps, .int .i64 pz, .int .i64 cd, .int .i64 bf, .int .i64 st, .int .i64 tn, .int .i64 lg, .int .i64 T, .int .i64 ma, .int .i64 na, .int .i64 ja] 23)) #[.int .i64 ha, .int .i64 nu, .int .i64 G, .int .i64 pz, .int .i64 cd, .int .i64 bf, .int .i64 st, .int .i64 tn, .int .i64 lg, .int .i64 mi, .int .i64 ma, .int .i64 na, .int .i64 (0)] 23
        simpa using this
      have bb := (bb.alloc bb.size (.cells #[.int .i64 ha, .int .i64 nu, .int .i64 ps, .int .i64 pz, .int .i64 cd, .int .i64 bf, .int .i64 st, .int .i64 tn, .int .i64 lg, .int .i64 T, .int .i64 ma, .int .i64 na, .int .i64 ja] 23)).alloc (by have := bb.size; simp; omega) (.cells #[.int .i64 ha, .int .i64 nu, .int .i64 G, .int .i64 pz, .int .i64 cd, .int .i64 bf, .int .i64 st, .int .i64 tn, .int .i64 lg, .int .i64 mi, .int .i64 ma, .int .i64 na, .int .i64 (0)] 23)
      clear q0 q1 q2 q3 q4 q5 q6 q7 q8 q9 q10 q11 q12 kk
      generalize (w1.alloc (.cells #[.int .i64 ha, .int .i64 nu, .int .i64 ps, .int .i64 pz, .int .i64 cd, .int .i64 bf, .int .i64 st, .int .i64 tn, .int .i64 lg, .int .i64 T, .int .i64 ma, .int .i64 na, .int .i64 ja] 23)).alloc (.cells #[.int .i64 ha, .int .i64 nu, .int .i64 G, .int .i64 pz, .int .i64 cd, .int .i64 bf, .int .i64 st, .int .i64 tn, .int .i64 lg, .int .i64 mi, .int .i64 ma, .int .i64 na, .int .i64 (0)] 23) = W at kc kK kP bb ⊢
      have kc := kc.drew
      have kK := kK.drew
      have kP := kP.drew
      have bb := bb.drew
      go_region_held3 (fun w' => (w'.cell? ⟨w.heap.size, 0, none⟩ = some (.int .i64 ha) ∧ w'.cell? ⟨w.heap.size, 1, none⟩ = some (.int .i64 nu) ∧ w'.cell? ⟨w.heap.size, 2, none⟩ = some (.int .i64 ps) ∧ w'.cell? ⟨w.heap.size, 3, none⟩ = some (.int .i64 pz) ∧ w'.cell? ⟨w.heap.size, 4, none⟩ = some (.int .i64 cd) ∧ w'.cell? ⟨w.heap.size, 5, none⟩ = some (.int .i64 bf) ∧ w'.cell? ⟨w.heap.size, 6, none⟩ = some (.int .i64 st) ∧ w'.cell? ⟨w.heap.size, 7, none⟩ = some (.int .i64 tn) ∧ w'.cell? ⟨w.heap.size, 8, none⟩ = some (.int .i64 lg) ∧ w'.cell? ⟨w.heap.size, 9, none⟩ = some (.int .i64 mi) ∧ w'.cell? ⟨w.heap.size, 10, none⟩ = some (.int .i64 ma) ∧ w'.cell? ⟨w.heap.size, 11, none⟩ = some (.int .i64 na) ∧ w'.cell? ⟨w.heap.size, 12, none⟩ = some (.int .i64 ja)) ∧ (w'.cell? ⟨w1.heap.size, 0, none⟩ = some (.int .i64 ha) ∧ w'.cell? ⟨w1.heap.size, 1, none⟩ = some (.int .i64 nu) ∧ w'.cell? ⟨w1.heap.size, 2, none⟩ = some (.int .i64 ps) ∧ w'.cell? ⟨w1.heap.size, 3, none⟩ = some (.int .i64 pz) ∧ w'.cell? ⟨w1.heap.size, 4, none⟩ = some (.int .i64 cd) ∧ w'.cell? ⟨w1.heap.size, 5, none⟩ = some (.int .i64 bf) ∧ w'.cell? ⟨w1.heap.size, 6, none⟩ = some (.int .i64 st) ∧ w'.cell? ⟨w1.heap.size, 7, none⟩ = some (.int .i64 tn) ∧ w'.cell? ⟨w1.heap.size, 8, none⟩ = some (.int .i64 lg) ∧ w'.cell? ⟨w1.heap.size, 9, none⟩ = some (.int .i64 T) ∧ w'.cell? ⟨w1.heap.size, 10, none⟩ = some (.int .i64 ma) ∧ w'.cell? ⟨w1.heap.size, 11, none⟩ = some (.int .i64 na) ∧ w'.cell? ⟨w1.heap.size, 12, none⟩ = some (.int .i64 ja)) ∧ (w'.cell? ⟨w1.heap.size + 1, 0, none⟩ = some (.int .i64 ha) ∧ w'.cell? ⟨w1.heap.size + 1, 1, none⟩ = some (.int .i64 nu) ∧ w'.cell? ⟨w1.heap.size + 1, 2, none⟩ = some (.int .i64 G) ∧ w'.cell? ⟨w1.heap.size + 1, 3, none⟩ = some (.int .i64 pz) ∧ w'.cell? ⟨w1.heap.size + 1, 4, none⟩ = some (.int .i64 cd) ∧ w'.cell? ⟨w1.heap.size + 1, 5, none⟩ = some (.int .i64 bf) ∧ w'.cell? ⟨w1.heap.size + 1, 6, none⟩ = some (.int .i64 st) ∧ w'.cell? ⟨w1.heap.size + 1, 7, none⟩ = some (.int .i64 tn) ∧ w'.cell? ⟨w1.heap.size + 1, 8, none⟩ = some (.int .i64 lg) ∧ w'.cell? ⟨w1.heap.size + 1, 9, none⟩ = some (.int .i64 mi) ∧ w'.cell? ⟨w1.heap.size + 1, 10, none⟩ = some (.int .i64 ma) ∧ w'.cell? ⟨w1.heap.size + 1, 11, none⟩ = some (.int .i64 na) ∧ w'.cell? ⟨w1.heap.size + 1, 12, none⟩ = some (.int .i64 (0)))) (exact ⟨kc.thirteen, kK.thirteen, kP.thirteen⟩) (first
        | (go_at_call 8; refine (awake3_any _).mono ?_; rintro e v1 ⟨rfl, b2⟩; have kc := kc.keep b2; have kK := kK.keep b2; have kP := kP.keep b2; have bb := below_trans bb b2; clear b2)
        | (go_at_call 9; refine (HP.out _).mono ?_; rintro e v1 ⟨rfl, b2⟩; have kc := kc.keep b2; have kK := kK.keep b2; have kP := kP.keep b2; have bb := below_trans bb b2; clear b2)
        | (go_at_call_of 13 (Value.int .i64 G); refine (H4.out _).mono ?_; rintro e v1 ⟨rfl, b2⟩; have kc := kc.keep b2; have kK := kK.keep b2; have kP := kP.keep b2; have bb := below_trans bb b2; clear b2)
        | (go_at_call_of 13 (Value.int .i64 y); refine (H2.out _).mono ?_; rintro e v1 ⟨rfl, b2⟩; have kc := kc.keep b2; have kK := kK.keep b2; have kP := kP.keep b2; have bb := below_trans bb b2; clear b2)
        | (go_at_call_of 13 (Value.int .i64 T); refine (H3.out _).mono ?_; rintro e v1 ⟨rfl, b2⟩; have kc := kc.keep b2; have kK := kK.keep b2; have kP := kP.keep b2; have bb := below_trans bb b2; clear b2)
        | (go_at_call_of 13 (Value.int .i64 ps); refine (H1.out _).mono ?_; rintro e v1 ⟨rfl, b2⟩; have kc := kc.keep b2; have kK := kK.keep b2; have kP := kP.keep b2; have bb := below_trans bb b2; clear b2))
      all_goals
        go_wp2
        go_ret
        exact ⟨rfl, bb⟩

end Go.Proofs.Ytehnpljegpiilaa
