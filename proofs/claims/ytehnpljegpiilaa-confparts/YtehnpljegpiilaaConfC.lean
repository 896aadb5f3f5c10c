/- What it is that a configuration may be made; contracts of Half, Mature, Words and Most. -/
import Derived.Test.YtehnpljegpiilaaConfB
import Derived.Deep.RegionHeld3
namespace Go.Proofs.Ytehnpljegpiilaa
open Go.RowKit

theorem wiB_iff (n f t : Int) : wiB n f t = true ↔ f ≤ n ∧ n ≤ t := by simp [wiB]
theorem dvB_iff (p n : Int) : dvB p n = true ↔ 1 ≤ p ∧ n.tmod p = 0 := by simp [dvB]

theorem wrap_in (x : Int) (h0 : -9223372036854775808 ≤ x) (h1 : x ≤ 9223372036854775807) : IntKind.i64.wrap x = x := by
  rw [IntKind.wrap_i64]
  omega

theorem retI {k : IntKind} {a b : Int} (h : a = b) : Ending.returned (.int k a) = .returned (.int k b) := by rw [h]

/-- What the document asks of a configuration. -/
structure May (ha nu ps pz cd bf st tn lg mi ma na ja : Int) : Prop where
  ha0 : 1 ≤ ha
  ha1 : ha ≤ 64
  nu0 : 8 ≤ nu
  nu1 : nu ≤ 4096
  ps0 : 0 ≤ ps
  ps1 : ps ≤ 64
  pz0 : 16 ≤ pz
  pz1 : pz ≤ 256
  cd0 : 1 ≤ cd
  cd1 : pz.tmod cd = 0
  bf0 : 0 ≤ bf
  bf1 : bf ≤ 256
  st0 : 1 ≤ st
  st1 : st ≤ 256
  tn0 : 1 ≤ tn
  tn1 : tn ≤ 7
  lg0 : 0 ≤ lg
  lg1 : lg ≤ 64
  lg2 : lg ≤ nu - 2
  mi0 : 0 ≤ mi
  mi1 : mi ≤ 64
  ma0 : 0 ≤ ma
  ma1 : ma ≤ 64
  na0 : 0 ≤ na
  na1 : na ≤ nu
  ja0 : 0 ≤ ja
  ja1 : ja ≤ ps

theorem mayB_iff (ha nu ps pz cd bf st tn lg mi ma na ja : Int) : mayB ha nu ps pz cd bf st tn lg mi ma na ja = true ↔ May ha nu ps pz cd bf st tn lg mi ma na ja := by
  unfold mayB cnds
  simp only [List.all_cons, List.all_nil, id_eq, Bool.and_true, Bool.and_eq_true, wiB_iff, dvB_iff]
  constructor
  · rintro ⟨h1, h2, h3, h4, h5, h6, h7, h8, h9, h10, h11, h12, h13⟩
    rw [wrap_in (nu - 2) (by omega) (by omega)] at h9
    obtain ⟨g0, g1⟩ := h9
    have g2 : lg ≤ 64 ∧ lg ≤ nu - 2 := by split at g1 <;> omega
    exact ⟨h1.1, h1.2, h2.1, h2.2, h3.1, h3.2, h4.1, h4.2, h5.1, h5.2, h6.1, h6.2, h7.1, h7.2, h8.1, h8.2, g0, g2.1, g2.2, h10.1, h10.2, h11.1, h11.2, h12.1, h12.2, h13.1, h13.2⟩
  · intro h
    rw [wrap_in (nu - 2) (by have := h.nu0; omega) (by have := h.nu1; omega)]
    refine ⟨⟨h.ha0, h.ha1⟩, ⟨h.nu0, h.nu1⟩, ⟨h.ps0, h.ps1⟩, ⟨h.pz0, h.pz1⟩, ⟨h.cd0, h.cd1⟩, ⟨h.bf0, h.bf1⟩, ⟨h.st0, h.st1⟩, ⟨h.tn0, h.tn1⟩, ⟨h.lg0, ?_⟩, ⟨h.mi0, h.mi1⟩, ⟨h.ma0, h.ma1⟩, ⟨h.na0, h.na1⟩, ⟨h.ja0, h.ja1⟩⟩
    have := h.lg1
    have := h.lg2
    split <;> omega

def halfI (nu n : Int) : Int := if n % 2 = 1 then 1 + nu else 1

theorem and_one (n : Int) : bits .and .i64 n 1 = n % 2 := by
  show IntKind.i64.wrap ((BitVec.ofInt 64 n &&& BitVec.ofInt 64 1).toNat : Int) = _
  rw [BitVec.toNat_and, BitVec.toNat_ofInt, show (BitVec.ofInt 64 1).toNat = 1 from rfl, Nat.and_one_is_mod, IntKind.wrap_i64]
  omega

set_option maxHeartbeats 1000000 in
theorem half_any (ha nu ps pz cd bf st tn lg mi ma na ja n : Int) (w : World) (nu0 : 8 ≤ nu) (nu1 : nu ≤ 4096) :
    Calls Try.prog 10 #[cfV ha nu ps pz cd bf st tn lg mi ma na ja, .int .i64 n] w fun e w' => e = .returned (.int .i64 (halfI nu n)) ∧ Below w.heap.size w w' := by
  have ha := and_one n
  unfold halfI
  by_cases h : n % 2 = 1
  · rw [if_pos h]
    rw [h] at ha
    clear h
    go_enter Try.func10, Try.ntmps10
    go_wp2
    go_ret
    exact ⟨rfl, (Below.refl _ _).alloc (Nat.le_refl _) _⟩
  · rw [if_neg h]
    obtain h : n % 2 = 0 := by omega
    rw [h] at ha
    clear h
    go_enter Try.func10, Try.ntmps10
    go_wp2
    go_ret
    exact ⟨rfl, (Below.refl _ _).alloc (Nat.le_refl _) _⟩

set_option maxHeartbeats 1000000 in
theorem mature_any (ha nu ps pz cd bf st tn lg mi ma na ja : Int) (w : World) (nu0 : 8 ≤ nu) (nu1 : nu ≤ 4096) :
    Calls Try.prog 11 #[cfV ha nu ps pz cd bf st tn lg mi ma na ja] w fun e w' => e = .returned (.int .i64 (1 + 2 * nu)) ∧ Below w.heap.size w w' := by
  go_enter Try.func11, Try.ntmps11
  go_wp2
  go_ret
  exact ⟨rfl, (Below.refl _ _).alloc (Nat.le_refl _) _⟩

theorem mul_in {a b A B : Int} (a0 : 0 ≤ a) (b0 : 0 ≤ b) (ha : a ≤ A) (hb : b ≤ B) : 0 ≤ a * b ∧ a * b ≤ A * B :=
  ⟨Int.mul_nonneg a0 b0, Int.mul_le_mul ha hb b0 (by omega)⟩

set_option maxHeartbeats 1000000 in
theorem words_any (ha nu ps pz cd bf st tn lg mi ma na ja : Int) (w : World) (h : May ha nu ps pz cd bf st tn lg mi ma na ja) :
    Calls Try.prog 12 #[cfV ha nu ps pz cd bf st tn lg mi ma na ja] w fun e w' => e = .returned (.int .i64 (1 + 2 * nu + ps * pz)) ∧ Below w.heap.size w w' := by
  have n0 := h.nu0
  have n1 := h.nu1
  obtain ⟨m0, m1⟩ := mul_in h.ps0 (by have := h.pz0; omega) h.ps1 h.pz1
  clear h
  have hk := Blk.new w #[.int .i64 ha, .int .i64 nu, .int .i64 ps, .int .i64 pz, .int .i64 cd, .int .i64 bf, .int .i64 st, .int .i64 tn, .int .i64 lg, .int .i64 mi, .int .i64 ma, .int .i64 na, .int .i64 ja] 23
  have hb : Below w.heap.size w (w.alloc (.cells #[.int .i64 ha, .int .i64 nu, .int .i64 ps, .int .i64 pz, .int .i64 cd, .int .i64 bf, .int .i64 st, .int .i64 tn, .int .i64 lg, .int .i64 mi, .int .i64 ma, .int .i64 na, .int .i64 ja] 23)) := (Below.refl _ _).alloc (Nat.le_refl _) _
  have HK := Lib.hid hk
  have HB := Lib.hid hb
  clear hk hb
  go_enter Try.func12, Try.ntmps12
  go_wp2_with fail
  generalize w.alloc (.cells #[.int .i64 ha, .int .i64 nu, .int .i64 ps, .int .i64 pz, .int .i64 cd, .int .i64 bf, .int .i64 st, .int .i64 tn, .int .i64 lg, .int .i64 mi, .int .i64 ma, .int .i64 na, .int .i64 ja] 23) = W at HK HB ⊢
  go_region_held3 (fun w' => w'.cell? ⟨w.heap.size, 0, none⟩ = some (.int .i64 ha) ∧ w'.cell? ⟨w.heap.size, 1, none⟩ = some (.int .i64 nu) ∧ w'.cell? ⟨w.heap.size, 2, none⟩ = some (.int .i64 ps) ∧ w'.cell? ⟨w.heap.size, 3, none⟩ = some (.int .i64 pz) ∧ w'.cell? ⟨w.heap.size, 4, none⟩ = some (.int .i64 cd) ∧ w'.cell? ⟨w.heap.size, 5, none⟩ = some (.int .i64 bf) ∧ w'.cell? ⟨w.heap.size, 6, none⟩ = some (.int .i64 st) ∧ w'.cell? ⟨w.heap.size, 7, none⟩ = some (.int .i64 tn) ∧ w'.cell? ⟨w.heap.size, 8, none⟩ = some (.int .i64 lg) ∧ w'.cell? ⟨w.heap.size, 9, none⟩ = some (.int .i64 mi) ∧ w'.cell? ⟨w.heap.size, 10, none⟩ = some (.int .i64 ma) ∧ w'.cell? ⟨w.heap.size, 11, none⟩ = some (.int .i64 na) ∧ w'.cell? ⟨w.heap.size, 12, none⟩ = some (.int .i64 ja)) (first | exact HK.out.drew.thirteen | exact (HK.out.drew.keep b1).thirteen) (first
    | (go_at_call 11; refine (mature_any _ _ _ _ _ _ _ _ _ _ _ _ _ _ n0 n1).mono ?_; rintro e w1 ⟨rfl, b1⟩))
  all_goals
    go_wp2
    go_ret
    exact ⟨retI (by rw [wrap_in (ps * pz) (by omega) (by omega), wrap_in _ (by omega) (by omega)]), below_trans HB.out.drew b1⟩

def clI (f lg : Int) : Int := if f < 0 then 0 else if lg < f then lg else f

def mostI (ha nu pz st lg mi ma f : Int) : Int := (((clI f lg + 2) * (mi + ma) + 8) * pz + (ha + st + 4 * nu)) * (lg + 4) * (2 * lg + 24)

theorem clI_in (f lg : Int) (h : 0 ≤ lg) : 0 ≤ clI f lg ∧ clI f lg ≤ lg := by
  unfold clI
  split
  · omega
  · split <;> omega

theorem most_in {ha nu pz st lg mi ma c : Int} (c0 : 0 ≤ c) (c1 : c ≤ 64) (mi0 : 0 ≤ mi) (mi1 : mi ≤ 64) (ma0 : 0 ≤ ma) (ma1 : ma ≤ 64) (pz0 : 16 ≤ pz) (pz1 : pz ≤ 256) (lg0 : 0 ≤ lg) (lg1 : lg ≤ 64)
    (ha0 : 1 ≤ ha) (ha1 : ha ≤ 64) (st0 : 1 ≤ st) (st1 : st ≤ 256) (nu0 : 8 ≤ nu) (nu1 : nu ≤ 4096) :
    (0 ≤ (c + 2) * (mi + ma) ∧ (c + 2) * (mi + ma) ≤ 8448) ∧ (128 ≤ ((c + 2) * (mi + ma) + 8) * pz ∧ ((c + 2) * (mi + ma) + 8) * pz ≤ 2164736) ∧
    (4 ≤ (((c + 2) * (mi + ma) + 8) * pz + (ha + st + 4 * nu)) * (lg + 4) ∧ (((c + 2) * (mi + ma) + 8) * pz + (ha + st + 4 * nu)) * (lg + 4) ≤ 148337920) ∧
    (0 < (((c + 2) * (mi + ma) + 8) * pz + (ha + st + 4 * nu)) * (lg + 4) * (2 * lg + 24) ∧ (((c + 2) * (mi + ma) + 8) * pz + (ha + st + 4 * nu)) * (lg + 4) * (2 * lg + 24) ≤ 22547363840) := by
  have p1 := mul_in (a := c + 2) (b := mi + ma) (A := 66) (B := 128) (by omega) (by omega) (by omega) (by omega)
  generalize (c + 2) * (mi + ma) = x1 at *
  have p2 := mul_in (a := x1 + 8) (b := pz) (A := 8456) (B := 256) (by omega) (by omega) (by omega) (by omega)
  have q2 : 8 * 16 ≤ (x1 + 8) * pz := Int.mul_le_mul (by omega) (by omega) (by omega) (by omega)
  generalize (x1 + 8) * pz = x2 at *
  have p3 := mul_in (a := x2 + (ha + st + 4 * nu)) (b := lg + 4) (A := 2181440) (B := 68) (by omega) (by omega) (by omega) (by omega)
  have q3 : 1 * 4 ≤ (x2 + (ha + st + 4 * nu)) * (lg + 4) := Int.mul_le_mul (by omega) (by omega) (by omega) (by omega)
  generalize (x2 + (ha + st + 4 * nu)) * (lg + 4) = x3 at *
  have p4 := mul_in (a := x3) (b := 2 * lg + 24) (A := 148337920) (B := 152) (by omega) (by omega) (by omega) (by omega)
  have q4 : 1 * 1 ≤ x3 * (2 * lg + 24) := Int.mul_le_mul (by omega) (by omega) (by omega) (by omega)
  generalize x3 * (2 * lg + 24) = x4 at *
  omega

set_option maxHeartbeats 1000000 in
theorem most_any (ha nu ps pz cd bf st tn lg mi ma na ja f : Int) (w : World) (h : May ha nu ps pz cd bf st tn lg mi ma na ja) :
    Calls Try.prog 13 #[cfV ha nu ps pz cd bf st tn lg mi ma na ja, .int .i64 f] w fun e w' => e = .returned (.int .i64 (mostI ha nu pz st lg mi ma f)) ∧ Below w.heap.size w w' := by
  obtain ⟨c0, c1⟩ := clI_in f lg h.lg0
  obtain ⟨lg0, lg1⟩ := And.intro h.lg0 h.lg1
  obtain ⟨p1, p2, p3, p4⟩ := most_in c0 (by omega) h.mi0 h.mi1 h.ma0 h.ma1 h.pz0 h.pz1 h.lg0 h.lg1 h.ha0 h.ha1 h.st0 h.st1 h.nu0 h.nu1
  obtain ⟨mi0, mi1, ma0, ma1⟩ := And.intro h.mi0 (And.intro h.mi1 (And.intro h.ma0 h.ma1))
  obtain ⟨ha0, ha1, st0, st1, nu0, nu1⟩ := And.intro h.ha0 (And.intro h.ha1 (And.intro h.st0 (And.intro h.st1 (And.intro h.nu0 h.nu1))))
  unfold mostI
  obtain ⟨d, hd⟩ : ∃ d, (if f < 0 then (0 : Int) else f) = d := ⟨_, rfl⟩
  have hc : (if lg < d then lg else d) = clI f lg := by
    subst hd
    unfold clI
    by_cases hf : f < 0
    · rw [if_pos hf, if_neg (by omega), if_pos hf]
    · rw [if_neg hf, if_neg hf]
  generalize clI f lg = c at *
  clear h
  go_enter Try.func13, Try.ntmps13
  go_wp2
  go_ret
  exact ⟨rfl, (Below.refl _ _).alloc (Nat.le_refl _) _⟩
end Go.Proofs.Ytehnpljegpiilaa
