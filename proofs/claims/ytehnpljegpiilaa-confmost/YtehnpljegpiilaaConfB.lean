/- Contract of Check: ErrArg just where one of the thirteen conditions fails. -/
import Derived.Test.YtehnpljegpiilaaConfA
import Derived.StillTailTactics
namespace Go.Proofs.Ytehnpljegpiilaa
open Go.RowKit

/-- A configuration as a value. -/
abbrev cfV (ha nu ps pz cd bf st tn lg mi ma na ja : Int) : Value :=
  .agg #[.int .i64 ha, .int .i64 nu, .int .i64 ps, .int .i64 pz, .int .i64 cd, .int .i64 bf, .int .i64 st, .int .i64 tn, .int .i64 lg, .int .i64 mi, .int .i64 ma, .int .i64 na, .int .i64 ja]

theorem Blk.drew {w : World} {b : Nat} {cs : Array Value} {t : TypeId} (h : Blk w b cs t) : Blk w.drew b cs t := h

theorem Blk.thirteen {w : World} {b : Nat} {t : TypeId} {v0 v1 v2 v3 v4 v5 v6 v7 v8 v9 v10 v11 v12 : Value} (h : Blk w b #[v0, v1, v2, v3, v4, v5, v6, v7, v8, v9, v10, v11, v12] t) :
    w.cell? ⟨b, 0, none⟩ = some v0 ∧ w.cell? ⟨b, 1, none⟩ = some v1 ∧ w.cell? ⟨b, 2, none⟩ = some v2 ∧ w.cell? ⟨b, 3, none⟩ = some v3 ∧ w.cell? ⟨b, 4, none⟩ = some v4 ∧ w.cell? ⟨b, 5, none⟩ = some v5 ∧ w.cell? ⟨b, 6, none⟩ = some v6 ∧
    w.cell? ⟨b, 7, none⟩ = some v7 ∧ w.cell? ⟨b, 8, none⟩ = some v8 ∧ w.cell? ⟨b, 9, none⟩ = some v9 ∧ w.cell? ⟨b, 10, none⟩ = some v10 ∧ w.cell? ⟨b, 11, none⟩ = some v11 ∧ w.cell? ⟨b, 12, none⟩ = some v12 :=
  ⟨h.cell 0, h.cell 1, h.cell 2, h.cell 3, h.cell 4, h.cell 5, h.cell 6, h.cell 7, h.cell 8, h.cell 9, h.cell 10, h.cell 11, h.cell 12⟩

def cnds (ha nu ps pz cd bf st tn lg mi ma na ja : Int) : List Bool :=
  [wiB ha 1 64, wiB nu 8 4096, wiB ps 0 64, wiB pz 16 256, dvB cd pz, wiB bf 0 256, wiB st 1 256, wiB tn 1 7, wiB lg 0 (if IntKind.i64.wrap (nu - 2) < 64 then IntKind.i64.wrap (nu - 2) else 64), wiB mi 0 64, wiB ma 0 64, wiB na 0 nu, wiB ja 0 ps]

def mayB (ha nu ps pz cd bf st tn lg mi ma na ja : Int) : Bool := (cnds ha nu ps pz cd bf st tn lg mi ma na ja).all id

def errI (b : Bool) : Int := if b then 0 else 1

theorem confWithin_still (n f t : Int) (w : World) :
    Calls Try.prog 16 #[.int .i64 n, .int .i64 f, .int .i64 t] w fun e w' => e = .returned (.bool (wiB n f t)) ∧ w' = w := (confWithin_any n f t w).mono fun _ _ h => ⟨h.1, h.2.symm⟩
theorem divides_still (p n : Int) (w : World) :
    Calls Try.prog 17 #[.int .i64 p, .int .i64 n] w fun e w' => e = .returned (.bool (dvB p n)) ∧ w' = w := (divides_any p n w).mono fun _ _ h => ⟨h.1, h.2.symm⟩

theorem all_13 {b0 b1 b2 b3 b4 b5 b6 b7 b8 b9 b10 b11 b12 r : Bool} (hr : [b0, b1, b2, b3, b4, b5, b6, b7, b8, b9, b10, b11, b12].all id = r) (b : Nat) (t : TypeId) (w : World) (h : Blk w b #[.bool b0, .bool b1, .bool b2, .bool b3, .bool b4, .bool b5, .bool b6, .bool b7, .bool b8, .bool b9, .bool b10, .bool b11, .bool b12] t) :
    Calls Try.prog 15 #[.slice (some ⟨b, 0, none⟩) 13 13] w fun e w' => e = .returned (.bool r) ∧ w = w' := by
  subst hr
  exact all_any [b0, b1, b2, b3, b4, b5, b6, b7, b8, b9, b10, b11, b12] b t w (by simp) h

set_option maxHeartbeats 4000000 in
set_option maxRecDepth 100000 in
theorem check_any (ha nu ps pz cd bf st tn lg mi ma na ja : Int) (w : World) :
    Calls Try.prog 9 #[cfV ha nu ps pz cd bf st tn lg mi ma na ja] w fun e w' => e = .returned (.int .i64 (errI (mayB ha nu ps pz cd bf st tn lg mi ma na ja))) ∧ Below w.heap.size w w' := by
  obtain ⟨m, hm⟩ : ∃ m, (if IntKind.i64.wrap (nu - 2) < 64 then IntKind.i64.wrap (nu - 2) else 64) = m := ⟨_, rfl⟩
  obtain ⟨r, hr⟩ : ∃ r, mayB ha nu ps pz cd bf st tn lg mi ma na ja = r := ⟨_, rfl⟩
  rw [hr]
  unfold mayB cnds at hr
  rw [hm] at hr
  have HR := Lib.hid hr
  clear hr
  have hk := Blk.new w #[.int .i64 ha, .int .i64 nu, .int .i64 ps, .int .i64 pz, .int .i64 cd, .int .i64 bf, .int .i64 st, .int .i64 tn, .int .i64 lg, .int .i64 mi, .int .i64 ma, .int .i64 na, .int .i64 ja] 23
  have hb : Below w.heap.size w (w.alloc (.cells #[.int .i64 ha, .int .i64 nu, .int .i64 ps, .int .i64 pz, .int .i64 cd, .int .i64 bf, .int .i64 st, .int .i64 tn, .int .i64 lg, .int .i64 mi, .int .i64 ma, .int .i64 na, .int .i64 ja] 23)) := (Below.refl _ _).alloc (Nat.le_refl _) _
  have HK := Lib.hid hk
  have HB := Lib.hid hb
  clear hk hb
  go_enter Try.func9, Try.ntmps9
  go_wp2_with fail
  generalize w.alloc (.cells #[.int .i64 ha, .int .i64 nu, .int .i64 ps, .int .i64 pz, .int .i64 cd, .int .i64 bf, .int .i64 st, .int .i64 tn, .int .i64 lg, .int .i64 mi, .int .i64 ma, .int .i64 na, .int .i64 ja] 23) = W at HK HB ⊢
  obtain ⟨c0, c1, c2, c3, c4, c5, c6, c7, c8, c9, c10, c11, c12⟩ := HK.out.thirteen
  go_still_tail 49, (by kernel_rfl)
  repeat (first | still_step | still_call (confWithin_still _ _ _ _) | still_call (divides_still _ _ _))
  refine wpStill_nil ?_
  change wpList _ _ _ _ _ W.drew
  clear c0 c1 c2 c3 c4 c5 c6 c7 c8 c9 c10 c11 c12
  go_wp2_with fail
  refine (all_13 HR.out _ _ _ (Blk.new _ _ _).drew).mono ?_
  rintro e w' ⟨rfl, rfl⟩
  cases r
  · go_wp2
    go_ret
    exact ⟨rfl, (HB.out.alloc HB.out.size _).drew⟩
  · go_wp2
    go_ret
    exact ⟨rfl, (HB.out.alloc HB.out.size _).drew⟩
end Go.Proofs.Ytehnpljegpiilaa
