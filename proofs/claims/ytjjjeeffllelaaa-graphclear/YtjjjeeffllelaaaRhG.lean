
/- The document's Same: whether two graphs as they are told are one. -/
import Derived.Test.YtjjjeeffllelaaaRhD
namespace Go.Proofs.Ytjjjeeffllelaaa
open Go.RowKit

abbrev Two := List Int × List Int

/-- Numbers in memory, nil let in. -/
def RdI (k : IntKind) (w : World) (A : Option Addr) (xs : List Int) : Prop := ∀ i x, xs[i]? = some x → ∃ g off, A = some ⟨g, off, none⟩ ∧ w.cell? ⟨g, off + i, none⟩ = some (.int k x)
/-- Nodes in memory. -/
def NdR (w : World) (A : Option Addr) (ns : List Two) : Prop := ∀ i y, ns[i]? = some y → ∃ g off A1 c1 A2 c2, A = some ⟨g, off, none⟩ ∧ w.cell? ⟨g, off + i * 2, none⟩ = some (.slice A1 y.1.length c1) ∧ w.cell? ⟨g, off + i * 2 + 1, none⟩ = some (.slice A2 y.2.length c2) ∧
  RdI .i64 w A1 y.1 ∧ RdI .u64 w A2 y.2 ∧ y.1.length ≤ 1073741824 ∧ y.2.length ≤ 1073741824

theorem RdI.drewN {k : IntKind} {w : World} {A : Option Addr} {xs : List Int} (h : RdI k w A xs) (m : Nat) : RdI k (w.drewN m) A xs := h
theorem NdR.drewN {w : World} {A : Option Addr} {ns : List Two} (h : NdR w A ns) (m : Nat) : NdR (w.drewN m) A ns := h

theorem take_eq {α : Type} {xs ys : List α} {i : Nat} {x y : α} (h : xs.take i = ys.take i) (hx : xs[i]? = some x) (hy : ys[i]? = some y) (e : x = y) : xs.take (i + 1) = ys.take (i + 1) := by
  rw [List.take_add_one, List.take_add_one, h, hx, hy, e]
theorem take_ne {α : Type} {xs ys : List α} {i : Nat} {x y : α} (hx : xs[i]? = some x) (hy : ys[i]? = some y) (e : x ≠ y) : xs ≠ ys := fun z => by
  rw [z, hy] at hx
  cases hx
  exact e rfl
theorem take_end {α : Type} {xs ys : List α} {n : Nat} (h : xs.take n = ys.take n) (hx : xs.length = n) (hy : ys.length = n) : xs = ys := by
  rwa [List.take_of_length_le (by omega), List.take_of_length_le (by omega)] at h

/-- How Same ends. -/
def SameR (w : World) (ns ms : List Two) (xs ys : List Int) (e : Ending) (w' : World) : Prop := e = .returned (.bool (decide (ns = ms ∧ xs = ys))) ∧ Below w.heap.size w w'

section
variable {w : World} {ns ms : List Two} {xs ys : List Int} {Aa Ax Ab Ay : Option Addr} {ca cx cb cy : Nat}

theorem SameR.no (h : ns ≠ ms ∨ xs ≠ ys) {e : Ending} {w' : World} (he : e = .returned (.bool false)) (hw : Below w.heap.size w w') : SameR w ns ms xs ys e w' :=
  ⟨by rw [he, decide_eq_false]; rintro ⟨h1, h2⟩; exact h.elim (fun k => k h1) fun k => k h2, hw⟩

set_option maxHeartbeats 8000000 in
set_option maxRecDepth 100000 in
theorem same_told (ha : NdR w Aa ns) (hx : RdI .i64 w Ax xs) (hb : NdR w Ab ms) (hy : RdI .i64 w Ay ys) (fa : ns.length ≤ 1073741824) (fx : xs.length ≤ 1073741824) :
    Calls Try.prog 18 #[.slice Aa ns.length ca, .slice Ax xs.length cx, .slice Ab ms.length cb, .slice Ay ys.length cy] w (SameR w ns ms xs ys) := by
  obtain ⟨n, hn⟩ : ∃ n, ns.length = n := ⟨_, rfl⟩
  obtain ⟨m, hm⟩ : ∃ m, ms.length = m := ⟨_, rfl⟩
  obtain ⟨p, hp⟩ : ∃ p, xs.length = p := ⟨_, rfl⟩
  obtain ⟨q, hq⟩ : ∃ q, ys.length = q := ⟨_, rfl⟩
  have HA := Lib.hid ha
  have HX := Lib.hid hx
  have HB := Lib.hid hb
  have HY := Lib.hid hy
  have HN := Lib.hid hn
  have HM := Lib.hid hm
  have HP := Lib.hid hp
  have HQ := Lib.hid hq
  rw [hn, hm, hp, hq]
  rw [hn] at fa
  rw [hp] at fx
  clear ha hx hb hy hn hm hp hq
  by_cases enm : n = m
  · by_cases epq : p = q
    · subst enm
      subst epq
      go_enter Try.func18, Try.ntmps18
      go_wp2_with fail
      go_loopw [9] (fun s9 wr => ∃ i d : Nat, i ≤ p ∧ s9 = .int .i64 i ∧ wr = w.drewN d ∧ Hid (xs.take i = ys.take i)) (fun s9 _ => p - (intOf s9).toNat)
      case atStart => exact ⟨0, 0, Nat.zero_le _, rfl, rfl, Lib.hid rfl⟩
      case round =>
        obtain ⟨i, d, hi, rfl, rfl, TI⟩ := hrel
        by_cases hlt : i < p
        · obtain ⟨x, hx⟩ : ∃ x, xs[i]? = some x := ⟨_, List.getElem?_eq_getElem (by rw [HP.out]; exact hlt)⟩
          obtain ⟨y, hy⟩ : ∃ y, ys[i]? = some y := ⟨_, List.getElem?_eq_getElem (by rw [HQ.out]; exact hlt)⟩
          obtain ⟨g1, o1, rfl, d1⟩ := HX.out i x hx
          obtain ⟨g2, o2, rfl, d2⟩ := HY.out i y hy
          by_cases e : x = y
          · have T2 := Lib.hid (take_eq TI.out hx hy e)
            subst e
            clear hx hy TI
            go_wp2_with fail
            go_quiet (fail)
            go_wp2
            go_roundw
            case rel => exact ⟨i + 1, _, by omega, by go_num, rfl, T2⟩
            case measure => simp [intOf]; omega
          · have RE := Lib.hid (fun e' w' => SameR.no (w := w) (ns := ns) (ms := ms) (e := e') (w' := w') (.inr (take_ne hx hy e)))
            clear hx hy TI
            go_wp2_with fail
            go_quiet (fail)
            go_wp2
            go_ret
            exact RE.out _ _ rfl (below_trans (below_drewN _ _) (below_drewN _ _))
        · obtain rfl : i = p := by omega
          have EX := Lib.hid (take_end TI.out HP.out HQ.out)
          clear TI
          go_wp2_with fail
          go_loopw [10, 11, 12] (fun s10 _ _ wr => ∃ i d : Nat, i ≤ n ∧ s10 = .int .i64 i ∧ wr = w.drewN d ∧ Hid (ns.take i = ms.take i)) (fun s10 _ _ _ => n - (intOf s10).toNat)
          case atStart => exact ⟨0, d, Nat.zero_le _, rfl, rfl, Lib.hid rfl⟩
          case round =>
            obtain ⟨j, d, hj, rfl, rfl, TJ⟩ := hrel
            by_cases hlt : j < n
            · obtain ⟨x, hx⟩ : ∃ x, ns[j]? = some x := ⟨_, List.getElem?_eq_getElem (by rw [HN.out]; exact hlt)⟩
              obtain ⟨y, hy⟩ : ∃ y, ms[j]? = some y := ⟨_, List.getElem?_eq_getElem (by rw [HM.out]; exact hlt)⟩
              obtain ⟨g1, o1, A1, c1, A2, c2, rfl, d1, d2, r1, r2, l1, l2⟩ := HA.out j x hx
              obtain ⟨g2, o2, B1, b1, B2, b2, rfl, e1, e2, t1, t2, -, -⟩ := HB.out j y hy
              obtain ⟨x1, x2⟩ := x
              obtain ⟨y1, y2⟩ := y
              have R1 := Lib.hid r1
              have R2 := Lib.hid r2
              have T1 := Lib.hid t1
              have T2 := Lib.hid t2
              have TK := Lib.hid (fun e => take_eq TJ.out hx hy e)
              have NO := Lib.hid (fun e' w' e => SameR.no (w := w) (xs := xs) (ys := ys) (e := e') (w' := w') (.inl (take_ne hx hy e)))
              obtain ⟨u1, hu1⟩ : ∃ u, x1.length = u := ⟨_, rfl⟩
              obtain ⟨u2, hu2⟩ : ∃ u, x2.length = u := ⟨_, rfl⟩
              obtain ⟨v1, hv1⟩ : ∃ u, y1.length = u := ⟨_, rfl⟩
              obtain ⟨v2, hv2⟩ : ∃ u, y2.length = u := ⟨_, rfl⟩
              simp only [hu1, hu2, hv1, hv2] at d1 d2 e1 e2 l1 l2
              have U1 := Lib.hid hu1
              have U2 := Lib.hid hu2
              have V1 := Lib.hid hv1
              have V2 := Lib.hid hv2
              clear hx hy r1 r2 t1 t2 hu1 hu2 hv1 hv2 TJ
              by_cases k1 : u1 = v1
              · by_cases k2 : u2 = v2
                · subst k1
                  subst k2
                  go_wp2_with fail
                  go_big_quiet (fail)
                  go_wp2_with fail
                  go_loopw [11] (fun s11 wr => ∃ k d : Nat, k ≤ u1 ∧ s11 = .int .i64 k ∧ wr = w.drewN d ∧ Hid (x1.take k = y1.take k)) (fun s11 _ => u1 - (intOf s11).toNat)
                  case atStart => exact ⟨0, d + nq, Nat.zero_le _, rfl, by unfold World.drewN; simp [Nat.add_assoc], Lib.hid rfl⟩
                  case round =>
                    obtain ⟨k, d, hk, rfl, rfl, TI⟩ := hrel
                    by_cases hlt : k < u1
                    · obtain ⟨x, hx⟩ : ∃ x, x1[k]? = some x := ⟨_, List.getElem?_eq_getElem (by rw [U1.out]; exact hlt)⟩
                      obtain ⟨y, hy⟩ : ∃ y, y1[k]? = some y := ⟨_, List.getElem?_eq_getElem (by rw [V1.out]; exact hlt)⟩
                      obtain ⟨g3, o3, rfl, d3⟩ := R1.out k x hx
                      obtain ⟨g4, o4, rfl, d4⟩ := T1.out k y hy
                      by_cases e : x = y
                      · have T2' := Lib.hid (take_eq TI.out hx hy e)
                        subst e
                        clear hx hy TI
                        go_wp2_with fail
                        go_big_quiet (fail)
                        go_wp2
                        go_roundw
                        case rel => exact ⟨k + 1, _, by omega, by go_num, rfl, T2'⟩
                        case measure => simp [intOf]; omega
                      · have RE := Lib.hid (fun e' w' => NO.out e' w' fun z => by cases z; exact take_ne hx hy e rfl)
                        clear hx hy TI NO TK
                        go_wp2_with fail
                        go_big_quiet (fail)
                        go_wp2
                        go_ret
                        exact RE.out _ _ rfl (below_trans (below_drewN _ _) (below_drewN _ _))
                    · obtain rfl : k = u1 := by omega
                      have E1 := Lib.hid (take_end TI.out U1.out V1.out)
                      clear TI
                      go_wp2_with fail
                      go_loopw [12] (fun s12 wr => ∃ i d : Nat, i ≤ u2 ∧ s12 = .int .i64 i ∧ wr = w.drewN d ∧ Hid (x2.take i = y2.take i)) (fun s12 _ => u2 - (intOf s12).toNat)
                      case atStart => exact ⟨0, _, Nat.zero_le _, rfl, rfl, Lib.hid rfl⟩
                      case round =>
                        obtain ⟨i, d, hi, rfl, rfl, TI⟩ := hrel
                        by_cases hlt : i < u2
                        · obtain ⟨x, hx⟩ : ∃ x, x2[i]? = some x := ⟨_, List.getElem?_eq_getElem (by rw [U2.out]; exact hlt)⟩
                          obtain ⟨y, hy⟩ : ∃ y, y2[i]? = some y := ⟨_, List.getElem?_eq_getElem (by rw [V2.out]; exact hlt)⟩
                          obtain ⟨g3, o3, rfl, d3⟩ := R2.out i x hx
                          obtain ⟨g4, o4, rfl, d4⟩ := T2.out i y hy
                          by_cases e : x = y
                          · have T2' := Lib.hid (take_eq TI.out hx hy e)
                            subst e
                            clear hx hy TI
                            go_wp2_with fail
                            go_big_quiet (fail)
                            go_wp2
                            go_roundw
                            case rel => exact ⟨i + 1, _, by omega, by go_num, rfl, T2'⟩
                            case measure => simp [intOf]; omega
                          · have RE := Lib.hid (fun e' w' => NO.out e' w' fun z => by cases z; exact take_ne hx hy e rfl)
                            clear hx hy TI NO TK
                            go_wp2_with fail
                            go_big_quiet (fail)
                            go_wp2
                            go_ret
                            exact RE.out _ _ rfl (below_trans (below_drewN _ _) (below_drewN _ _))
                        · obtain rfl : i = u2 := by omega
                          have TN := Lib.hid (TK.out (by rw [E1.out, take_end TI.out U2.out V2.out]))
                          clear TI NO TK
                          go_wp2_with fail
                          go_roundw
                          case rel => exact ⟨j + 1, _, by omega, by go_num, rfl, TN⟩
                          case measure => simp [intOf]; omega
                · have RE := Lib.hid (fun e' w' => NO.out e' w' fun e => by cases e; exact k2 (by rw [← U2.out, V2.out]))
                  subst k1
                  clear NO TK
                  go_wp2_with fail
                  go_big_quiet (fail)
                  go_wp2
                  go_ret
                  exact RE.out _ _ rfl (below_trans (below_drewN _ _) (below_drewN _ _))
              · have RE := Lib.hid (fun e' w' => NO.out e' w' fun e => by cases e; exact k1 (by rw [← U1.out, V1.out]))
                have q1 : ((u1 : Int) != (v1 : Int)) = true := by simp; omega
                clear NO TK
                go_wp2_with fail
                go_big_quiet (fail)
                go_wp2
                go_ret
                exact RE.out _ _ rfl (below_trans (below_drewN _ _) (below_drewN _ _))
            · obtain rfl : j = n := by omega
              have RE := Lib.hid (fun w' (hw : ∃ m, w' = w.drewN m) => (show SameR w ns ms xs ys (.returned (.bool true)) w' from by
                obtain ⟨m, rfl⟩ := hw
                exact ⟨by rw [decide_eq_true ⟨take_end TJ.out HN.out HM.out, EX.out⟩], below_drewN _ _⟩))
              clear TJ
              go_wp2
              go_ret
              exact RE.out _ ⟨_, rfl⟩
    · have RE := Lib.hid (SameR.no (w := w) (ns := ns) (ms := ms) (xs := xs) (ys := ys) (w' := w) (.inr fun e => epq (by rw [← HP.out, e, HQ.out])) rfl (Below.refl _ _))
      subst enm
      go_enter Try.func18, Try.ntmps18
      go_wp2
      go_ret
      exact RE.out
  · have RE := Lib.hid (SameR.no (w := w) (ns := ns) (ms := ms) (xs := xs) (ys := ys) (w' := w) (.inl fun e => enm (by rw [← HN.out, e, HM.out])) rfl (Below.refl _ _))
    go_enter Try.func18, Try.ntmps18
    go_wp2
    go_ret
    exact RE.out
end
end Go.Proofs.Ytjjjeeffllelaaa
