/- TableApart: setting one handle changes no other one; what is told of all is new each time. -/
import Derived.Test.YtddgbhdfbkkfjaaTbC
import Derived.Deep.DeepCutAuto
import Derived.Deep.CutBlock
namespace Go.Proofs.Ytddgbhdfbkkfjaa
open Go.RowKit

/-- The first i handles of k hold 100 and on. -/
def TbUp (k i : Nat) (xs : List Int) : Prop := xs.length = k ∧ ∀ j, j < i → xs[j]? = some (100 + (j : Int))

theorem TbUp.zero {k : Nat} (h : k ≤ 64) : TbUp k 0 (zeros (cutI k 0 64)) := by
  refine ⟨?_, fun j hj => absurd hj (by omega)⟩
  rw [zeros_length]
  unfold cutI
  split
  · omega
  · split <;> omega

theorem TbUp.step {k i : Nat} {xs : List Int} (h : TbUp k i xs) (hi : i < k) : TbUp k (i + 1) (xs.set i (100 + (i : Int))) := by
  refine ⟨by rw [List.length_set]; exact h.1, fun j hj => ?_⟩
  rw [List.getElem?_set]
  by_cases e : i = j
  · subst e
    rw [if_pos rfl, if_pos (by have := h.1; omega)]
  · rw [if_neg e]
    exact h.2 j (by omega)

/-- What is told of all, from the i-th on as it was told. -/
def TbRest (i k : Nat) (ys zs : List Int) : Prop := zs.length = k ∧ ys.length = k ∧ ∀ j, i ≤ j → zs[j]? = ys[j]?

theorem TbRest.step {i k : Nat} {ys zs : List Int} (h : TbRest i k ys zs) (v : Int) : TbRest (i + 1) k ys (zs.set i v) :=
  ⟨by rw [List.length_set]; exact h.1, h.2.1, fun j hj => by rw [List.getElem?_set, if_neg (by omega)]; exact h.2.2 j (by omega)⟩

/-- The table, and a list of own memory beside it. -/
structure TbBeside (w0 w : World) (b : Nat) (ys : List Int) (g off k c : Nat) (zs : List Int) : Prop where
  tab : Hz w0 w (fun i => i = g) b ys
  row : Qu w (some ⟨g, off, none⟩) k c zs

theorem TbBeside.set {w0 w : World} {b g off k c : Nat} {ys zs : List Int} (h : TbBeside w0 w b ys g off k c zs) (i : Nat) (x : Int) : TbBeside w0 (w.setCell ⟨g, off + i, none⟩ (.int .i64 x)) b ys g off k c (zs.set i x) :=
  ⟨h.tab.write (S := fun k => k = g) (Frm.setCell (S := fun k => k = g) (Frm.refl _ _) (p := ⟨g, off + i, none⟩) (fun _ => rfl) _) (fun _ _ e => e) (fun _ e => .inl e), h.row.put i x⟩

set_option maxHeartbeats 4000000 in
theorem tableApart_walk (n h at_ : Int) (n0 : 0 ≤ n) (_ : n ≤ 255) (h0 : 0 ≤ h) (h1 : h ≤ 255) (w : World) :
    Calls Try.prog 5 #[.int .u8 n, .int .u8 h, .int .i64 at_] w fun e w' => e = .returned (.bool true) ∧ Below w.heap.size w w' := by
  obtain ⟨k, hk⟩ : ∃ k : Nat, (k : Int) = n % 60 + 1 := ⟨(n % 60 + 1).toNat, by omega⟩
  have k1 : 1 ≤ k := by omega
  have k2 : k ≤ 60 := by omega
  have ek : n % 60 = (k : Int) - 1 := by omega
  have ek2 : Int.tmod n 60 = (k : Int) - 1 := by rw [Int.tmod_eq_emod_of_nonneg n0]; exact ek
  obtain ⟨x, hx⟩ : ∃ x : Nat, (x : Int) = h % (k : Int) := ⟨(h % (k : Int)).toNat, by have := Int.emod_nonneg h (show (k : Int) ≠ 0 by omega); omega⟩
  have x1 : x < k := by have := Int.emod_lt_of_pos h (show (0 : Int) < (k : Int) by omega); omega
  have ex : h % (k : Int) = (x : Int) := hx.symm
  have ex2 : Int.tmod h (k : Int) = (x : Int) := by rw [Int.tmod_eq_emod_of_nonneg h0]; exact ex
  clear hk hx
  go_enter Try.func5, Try.ntmps5
  go_wp2_with fail
  refine (hz_new (Z := noZ) k (Below.refl _ w) tb_noZ).mono ?_
  rintro e w1 ⟨b, rfl, s, _⟩
  have HU := Lib.hid (TbUp.zero (k := k) (by omega))
  have HS := Lib.hid s
  generalize zeros (cutI k 0 64) = xs at HU HS
  clear s
  unfold tbP
  go_wp2_with fail
  go_loopw [9] (fun s wr => ∃ (i : Nat) (ys : List Int), i ≤ k ∧ s = .int .i64 i ∧ Hid (TbUp k i ys) ∧ Hid (Hz w wr noZ b ys)) (fun s _ => k - (intOf s).toNat)
  case atStart => exact ⟨0, xs, Nat.zero_le _, rfl, HU, HS⟩
  case round =>
    clear HU HS
    obtain ⟨i, ys, hi, rfl, HU, HB⟩ := hrel
    by_cases hlt : i < k
    · have HJ := Lib.hid (show i < ys.length by rw [HU.out.1]; exact hlt)
      have wi : IntKind.i64.wrap (100 + (i : Int)) = 100 + (i : Int) := IntWalk.i64_in _ (by omega)
      go_wp2_with fail
      refine (hz_set_yes HB.out i HJ.out (100 + (i : Int))).mono ?_
      rintro e w2 ⟨rfl, s, _⟩
      have HS := Lib.hid s
      have HV := Lib.hid (HU.out.step hlt)
      clear s HB HU HJ
      go_wp2
      go_roundw
      case rel => exact ⟨i + 1, _, by omega, by go_num, HV, HS⟩
      case measure => simp [intOf]; omega
    · obtain rfl : k = i := by omega
      clear hlt hi
      have HJ := Lib.hid (show x < ys.length by rw [HU.out.1]; exact x1)
      generalize wr = wo at *
      go_wp2_with fail
      refine (hz_set_yes HB.out x HJ.out at_).mono ?_
      rintro e w2 ⟨rfl, s, _⟩
      have HS := Lib.hid s
      have HL := Lib.hid (show (ys.set x at_).length = k by rw [List.length_set]; exact HU.out.1)
      have HX := Lib.hid (show (ys.set x at_)[x]? = some at_ by rw [List.getElem?_set, if_pos rfl, if_pos HJ.out])
      have HO := Lib.hid (show ∀ j, j < k → j ≠ x → (ys.set x at_)[j]? = some (100 + (j : Int)) from fun j hj hne => by rw [List.getElem?_set, if_neg (Ne.symm hne)]; exact HU.out.2 j hj)
      generalize ys.set x at_ = zs at HS HL HX HO
      clear s HB HU HJ
      go_wp2_with fail
      refine (hz_all HS.out HL.out).mono ?_
      rintro e w3 ⟨A', c', rfl, q, bb, hn⟩
      obtain ⟨g, off, rfl, hg, _, _⟩ := q.at_ (by omega)
      have hg2 : w2.heap.size ≤ g := hn g rfl
      have HQ := Lib.hid (show TbBeside w w3 b zs g off k c' zs from ⟨HS.out.grow bb (fun i e => .inr (by subst e; exact ⟨hg2, hg⟩)), q⟩)
      clear q bb hn HS hg hg2
      have HR := Lib.hid (show TbRest 0 k zs zs from ⟨HL.out, HL.out, fun _ _ => rfl⟩)
      go_wp2_with fail
      go_loopw [12] (fun s wr => ∃ (i : Nat) (vs : List Int), i ≤ k ∧ s = .int .i64 i ∧ Hid (TbRest i k zs vs) ∧ Hid (TbBeside w wr b zs g off k c' vs)) (fun s _ => k - (intOf s).toNat)
      case atStart => exact ⟨0, zs, Nat.zero_le _, rfl, HR, HQ⟩
      case round =>
        clear HR HQ
        obtain ⟨i, vs, hi, rfl, HR, HQ⟩ := hrel
        by_cases hlt : i < k
        · obtain ⟨g', off', e, hg, hc, hf⟩ := HQ.out.row.at_ (by omega)
          cases e
          have hR := HR.out.2.2 i (Nat.le_refl _)
          have fi := hf (off + i)
          have wi : IntKind.i64.wrap (100 + (i : Int)) = 100 + (i : Int) := IntWalk.i64_in _ (by omega)
          have HV := Lib.hid (HR.out.step (-1))
          have HW := Lib.hid (HQ.out.set i (-1))
          have i0 : (0 : Int) ≤ (i : Int) := by omega
          have i1 : (i : Int) < (k : Int) := by omega
          by_cases hxi : i = x
          · subst hxi
            have ci := hc i at_ (hR.trans HX.out)
            clear hR hc hf HR HQ
            go_wp2
            go_roundw
            case rel => exact ⟨i + 1, _, by omega, by go_num, HV, HW⟩
            case measure => simp [intOf]; omega
          · have ci := hc i _ (hR.trans (HO.out i hlt hxi))
            have hne : ((i : Int) = (x : Int)) = False := by simp; omega
            clear hR hc hf HR HQ
            go_wp2
            go_roundw
            case rel => exact ⟨i + 1, _, by omega, by go_num, HV, HW⟩
            case measure => simp [intOf]; omega
        · obtain rfl : k = i := by omega
          have HT := Lib.hid HQ.out.tab
          clear hlt hi HR HQ
          go_wp2_with fail
          refine (hz_get_yes HT.out x HX.out).mono ?_
          rintro e w5 ⟨rfl, rfl⟩
          go_wp2_with fail
          refine (tbAwake_walk _).mono ?_
          rintro e w6 ⟨rfl, bb⟩
          have HE := Lib.hid (HT.out.keep bb)
          clear bb HT
          go_wp2
          go_ret
          exact ⟨rfl, HE.out.bel⟩
end Go.Proofs.Ytddgbhdfbkkfjaa
