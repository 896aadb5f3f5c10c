/- GraphApart: what is written into one node is in no other one. -/
import Derived.Test.YtjjjeeffllelaaaGgO
namespace Go.Proofs.Ytjjjeeffllelaaa
open Go.RowKit Go.Maps

def apH : Nat → Gr
  | 0 => Gr.new 4 6
  | h + 1 => (apH h).nxt 1 h 1 5 0
theorem apH_ans (h : Nat) (hh : h < 2) : (apH h).ans 1 h 1 5 0 = (0, false, 0, 0) := by
  match h, hh with
  | 0, _ => decide
  | 1, _ => decide
def apC : Gr := (apH 2).nxt 7 2 0 0 0
def apW (k v : Int) : Gr := apC.nxt 5 0 k 0 v
def apS (k v : Int) : Gr := (apW k v).nxt 3 2 0 1 0
def apG (k v : Int) : Gr := (apS k v).nxt 2 3 0 0 0
theorem ap_facts (k : Nat) (hk : k < 5) (v : Int) : (apG k v).ans 4 2 k 0 0 = (0, false, 0, v) ∧ (apG k v).nxt 4 2 k 0 0 = apG k v ∧ (apG k v).ans 4 1 k 0 0 = (0, false, 0, 0) ∧ (apG k v).nxt 4 1 k 0 0 = apG k v ∧
    (apG k v).ans 8 3 1 0 0 = (0, true, 0, 0) ∧ (apG k v).nxt 8 3 1 0 0 = apG k v ∧ (apG k v).ans 8 3 0 0 0 = (0, false, 0, 0) := by
  match k, hk with
  | 0, _ => refine ⟨?_, ?_, ?_, ?_, ?_, ?_, ?_⟩ <;> kernel_rfl
  | 1, _ => refine ⟨?_, ?_, ?_, ?_, ?_, ?_, ?_⟩ <;> kernel_rfl
  | 2, _ => refine ⟨?_, ?_, ?_, ?_, ?_, ?_, ?_⟩ <;> kernel_rfl
  | 3, _ => refine ⟨?_, ?_, ?_, ?_, ?_, ?_, ?_⟩ <;> kernel_rfl
  | 4, _ => refine ⟨?_, ?_, ?_, ?_, ?_, ?_, ?_⟩ <;> kernel_rfl

theorem fld_E (e : Int) (y : Bool) (n u : Int) (w : World) : (Instr.field 30 (anV e y n u) 0).run Try.prog w = .ok (.int .i64 e) w := by kernel_rfl

set_option maxHeartbeats 8000000 in
set_option maxRecDepth 100000 in
theorem graphApart_walk (x v : Int) (x0 : 0 ≤ x) (w : World) : Calls Try.prog 7 #[.int .u8 x, .int .u64 v] w fun e w' => e = .returned (.bool true) ∧ Below w.heap.size w w' := by
  obtain ⟨k, hk⟩ : ∃ k : Nat, x % 5 = k := ⟨(x % 5).toNat, by omega⟩
  have hk2 : x.tmod 5 = k := by rw [Int.tmod_eq_emod_of_nonneg x0]; exact hk
  have k1 : k < 5 := by omega
  have kw : IntKind.u8.wrap (k : Int) = k := by rw [IntKind.wrap_u8]; omega
  have kv : IntKind.i64.wrap (k : Int) = k := IntWalk.i64_in _ (by omega)
  have AF := Lib.hid (ap_facts k k1 v)
  have HN := Lib.hid (gw_new (Z := noZ) (Below.refl w.heap.size w) (fun _ e => e.elim) 4 6)
  clear x0
  unfold gP at *
  go_enter Try.func7, Try.ntmps7
  go_wp2_with fail
  refine HN.out.mono ?_
  rintro e w1 ⟨g, rfl, k1', _⟩
  have K1 := Lib.hid (show Gw w w1 noZ g (apH 0) from k1')
  clear k1' HN
  go_wp2_with fail
  go_loopw [6] (fun s wr => ∃ h : Nat, h ≤ 2 ∧ s = .int .i64 h ∧ Hid (Gw w wr noZ g (apH h))) (fun s _ => 2 - (intOf s).toNat)
  case atStart => exact ⟨0, Nat.zero_le _, rfl, K1⟩
  case round =>
    clear K1
    obtain ⟨h, hh, rfl, HB⟩ := hrel
    by_cases hlt : h < 2
    · have HD := HB.out.doG 1 h 1 5 0 (by decide) (by decide)
      rw [apH_ans h hlt] at HD
      have HD := Lib.hid HD
      clear hk hk2 kw kv
      go_wp2_with fail
      refine HD.out.mono ?_
      rintro e w2 ⟨rfl, k2, _⟩
      have fe := fld_E 0 false 0 0 w2
      have K2 := Lib.hid (show Gw w w2 noZ g (apH (h + 1)) from k2)
      clear k2 HD HB
      go_wp2
      go_roundw
      case rel => exact ⟨h + 1, by omega, by go_num, K2⟩
      case measure => simp [intOf]; omega
    · obtain rfl : h = 2 := by omega
      go_wp2_with fail
      have HD := Lib.hid (HB.out.doG 7 2 0 0 0 (by decide) (by decide))
      refine HD.out.mono ?_
      rintro e v0 ⟨rfl, k2, _⟩
      have L0 := Lib.hid (show Gw w v0 noZ g apC from k2)
      clear k2 HD HB
      go_wp2_with fail
      have HD := Lib.hid (L0.out.doG 5 0 k 0 v (by decide) (by decide))
      refine HD.out.mono ?_
      rintro e v1 ⟨rfl, k2, _⟩
      have L1 := Lib.hid (show Gw w v1 noZ g (apW k v) from k2)
      clear k2 HD L0
      go_wp2_with fail
      have HD := Lib.hid (L1.out.doG 3 2 0 1 0 (by decide) (by decide))
      refine HD.out.mono ?_
      rintro e v2 ⟨rfl, k2, _⟩
      have L2 := Lib.hid (show Gw w v2 noZ g (apS k v) from k2)
      clear k2 HD L1
      go_wp2_with fail
      have HD := Lib.hid (L2.out.doG 2 3 0 0 0 (by decide) (by decide))
      refine HD.out.mono ?_
      rintro e v3 ⟨rfl, k2, _⟩
      have L3 := Lib.hid (show Gw w v3 noZ g (apG k v) from k2)
      clear k2 HD L2
      go_wp2_with fail
      have HD := L3.out.doG 4 2 k 0 0 (by decide) (by decide)
      rw [AF.out.1, AF.out.2.1] at HD
      have HD := Lib.hid HD
      refine HD.out.mono ?_
      rintro e u0 ⟨rfl, k2, p2⟩
      have al : Below u0.heap.size u0 (u0.alloc (.cells #[.int .i64 0, .bool false, .int .i64 0, .int .u64 v] 30)) := (Below.refl _ _).alloc (Nat.le_refl _) _
      have K := Lib.hid (show Gw w (u0.alloc (.cells #[.int .i64 0, .bool false, .int .i64 0, .int .u64 v] 30)) (fun k => k = u0.heap.size) g (apG k v) from k2.grow al (fun k hk => .inr ⟨by omega, by subst hk; simp⟩))
      have X0 := Lib.hid (Blk.new u0 #[.int .i64 0, .bool false, .int .i64 0, .int .u64 v] 30)
      clear k2 p2 HD L3 al
      have L10 := K
      clear K
      go_wp2_with fail
      generalize u0.alloc (.cells #[.int .i64 0, .bool false, .int .i64 0, .int .u64 v] 30) = t0 at *
      generalize u0.heap.size = y0 at *
      have HD := L10.out.doG 4 1 k 0 0 (by decide) (by decide)
      rw [AF.out.2.2.1, AF.out.2.2.2.1] at HD
      have HD := Lib.hid HD
      refine HD.out.mono ?_
      rintro e u1 ⟨rfl, k2, p2⟩
      have al : Below u1.heap.size u1 (u1.alloc (.cells #[.int .i64 0, .bool false, .int .i64 0, .int .u64 0] 30)) := (Below.refl _ _).alloc (Nat.le_refl _) _
      have K := Lib.hid (show Gw w (u1.alloc (.cells #[.int .i64 0, .bool false, .int .i64 0, .int .u64 0] 30)) (fun k => k = y0 ∨ k = u1.heap.size) g (apG k v) from k2.grow al (fun k hk => by
        rcases hk with hk | hk
        · exact .inl (by subst hk; simp)
        · exact .inr ⟨by omega, by subst hk; simp⟩))
      have X0 := Lib.hid ((X0.out.kp p2 (by simp)).keep al)
      have X1 := Lib.hid (Blk.new u1 #[.int .i64 0, .bool false, .int .i64 0, .int .u64 0] 30)
      clear k2 p2 HD L10 al
      have L11 := K
      clear K
      go_wp2_with fail
      generalize u1.alloc (.cells #[.int .i64 0, .bool false, .int .i64 0, .int .u64 0] 30) = t1 at *
      generalize u1.heap.size = y1 at *
      have HD := L11.out.doG 8 3 1 0 0 (by decide) (by decide)
      rw [AF.out.2.2.2.2.1, AF.out.2.2.2.2.2.1] at HD
      have HD := Lib.hid HD
      refine HD.out.mono ?_
      rintro e u2 ⟨rfl, k2, p2⟩
      have al : Below u2.heap.size u2 (u2.alloc (.cells #[.int .i64 0, .bool true, .int .i64 0, .int .u64 0] 30)) := (Below.refl _ _).alloc (Nat.le_refl _) _
      have K := Lib.hid (show Gw w (u2.alloc (.cells #[.int .i64 0, .bool true, .int .i64 0, .int .u64 0] 30)) (fun k => k = y0 ∨ k = y1 ∨ k = u2.heap.size) g (apG k v) from k2.grow al (fun k hk => by
        rcases hk with hk | hk | hk
        · exact .inl (by subst hk; simp)
        · exact .inl (by subst hk; simp)
        · exact .inr ⟨by omega, by subst hk; simp⟩))
      have X0 := Lib.hid ((X0.out.kp p2 (by simp)).keep al)
      have X1 := Lib.hid ((X1.out.kp p2 (by simp)).keep al)
      have X2 := Lib.hid (Blk.new u2 #[.int .i64 0, .bool true, .int .i64 0, .int .u64 0] 30)
      clear k2 p2 HD L11 al
      have L12 := K
      clear K
      go_wp2_with fail
      generalize u2.alloc (.cells #[.int .i64 0, .bool true, .int .i64 0, .int .u64 0] 30) = t2 at *
      generalize u2.heap.size = y2 at *
      have HD := L12.out.doG 8 3 0 0 0 (by decide) (by decide)
      rw [AF.out.2.2.2.2.2.2] at HD
      have HD := Lib.hid HD
      refine HD.out.mono ?_
      rintro e u3 ⟨rfl, k2, p2⟩
      have al : Below u3.heap.size u3 (u3.alloc (.cells #[.int .i64 0, .bool false, .int .i64 0, .int .u64 0] 30)) := (Below.refl _ _).alloc (Nat.le_refl _) _
      have BB := Lib.hid (k2.keep al).bel
      have X0 := Lib.hid ((X0.out.kp p2 (by simp)).keep al)
      have X1 := Lib.hid ((X1.out.kp p2 (by simp)).keep al)
      have X2 := Lib.hid ((X2.out.kp p2 (by simp)).keep al)
      have X3 := Lib.hid (Blk.new u3 #[.int .i64 0, .bool false, .int .i64 0, .int .u64 0] 30)
      clear k2 p2 HD L12 al
      go_wp2_with fail
      generalize u3.alloc (.cells #[.int .i64 0, .bool false, .int .i64 0, .int .u64 0] 30) = t3 at *
      generalize u3.heap.size = y3 at *
      refine (awake18_walk _).mono ?_
      rintro e w9 ⟨rfl, b9⟩
      have B9 := Lib.hid (below_trans BB.out b9)
      have z0 := X0.out.keep b9
      have z00 := z0.cell 0
      have z01 := z0.cell 1
      have z03 := z0.cell 3
      clear z0
      have z1 := X1.out.keep b9
      have z10 := z1.cell 0
      have z11 := z1.cell 1
      have z13 := z1.cell 3
      clear z1
      have z2 := X2.out.keep b9
      have z20 := z2.cell 0
      have z21 := z2.cell 1
      have z23 := z2.cell 3
      clear z2
      have z3 := X3.out.keep b9
      have z30 := z3.cell 0
      have z31 := z3.cell 1
      have z33 := z3.cell 3
      clear z3
      clear b9 BB X0 X1 X2 X3
      go_wp2
      go_ret
      exact ⟨rfl, B9.out⟩
end Go.Proofs.Ytjjjeeffllelaaa
