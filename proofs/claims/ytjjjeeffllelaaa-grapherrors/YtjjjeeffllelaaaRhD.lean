
/- The document's graph: at, Words. -/
import Derived.Test.YtjjjeeffllelaaaRhC
namespace Go.Proofs.Ytjjjeeffllelaaa
open Go.RowKit

section
variable {w : World} {g n c : Nat} {S : Nat → Prop} {G : Gr} {A : Option Addr} {xs : List Int}

set_option maxHeartbeats 4000000 in
theorem rgAt (q : Qu w A n c xs) (few : n ≤ 1048576) (x : Int) : Calls Try.prog 37 #[.slice A n c, .int .i64 x] w fun e w' => e = .returned (.int .i64 (atL xs x)) ∧ w' = w := by
  have HQ := Lib.hid q
  have HL := Lib.hid q.len
  clear q
  go_enter Try.func37, Try.ntmps37
  go_wp2_with fail
  go_loopw [5] (fun s3 wr => ∃ j : Nat, j ≤ n ∧ s3 = .int .i64 j ∧ wr = w ∧ Hid (atF (xs.drop j) x j = atL xs x)) (fun s3 _ => n - (intOf s3).toNat)
  case atStart => exact ⟨0, Nat.zero_le _, rfl, rfl, Lib.hid rfl⟩
  case round =>
    obtain ⟨j, hj, rfl, rfl, HA⟩ := hrel
    by_cases hlt : j < n
    · obtain ⟨y, hy⟩ : ∃ y, xs[j]? = some y := ⟨_, List.getElem?_eq_getElem (by rw [HL.out]; exact hlt)⟩
      obtain ⟨q, off, rfl, _, qat, _⟩ := HQ.out.at_ (by omega)
      have d := qat j y hy
      have ST := Lib.hid (atF_drop (x := x) hy)
      clear qat hy
      by_cases e : y = x
      · have RE := Lib.hid (show atL xs x = ((j + 1 : Nat) : Int) from by rw [← HA.out, ST.out, if_pos e])
        subst e
        clear ST HA HQ
        go_wp2_with fail
        go_ret
        exact ⟨ret_int (by rw [RE.out]; simp), rfl⟩
      · have RE := Lib.hid (show atF (xs.drop (j + 1)) x (j + 1) = atL xs x from by rw [← HA.out, ST.out, if_neg e])
        clear ST HA
        go_wp2_with fail
        go_roundw
        case rel => exact ⟨j + 1, by omega, by go_num, trivial, RE⟩
        case measure => simp [intOf]; omega
    · obtain rfl : j = n := by omega
      have RE := Lib.hid (show atL xs x = 0 from by rw [← HA.out]; exact atF_end (by rw [HL.out]; exact Nat.le_refl _))
      clear HA HQ
      go_wp2
      go_ret
      exact ⟨ret_int RE.out.symm, rfl⟩

/-- How many words nodes have. -/
def Gr.size (G : Gr) (x : Int) : Int := (G.node x).1.length + (G.node x).2.length + 2
def Gr.words (G : Gr) : Int := (G.live.map G.size).sum

theorem sum_take {L : List Int} {f : Int → Int} {j : Nat} {x : Int} (h : L[j]? = some x) : ((L.take (j + 1)).map f).sum = ((L.take j).map f).sum + f x := by
  rw [List.take_add_one, h, Option.toList_some, List.map_append, List.sum_append]
  simp
theorem sum_in {G : Gr} (hs : ∀ x ∈ G.live, 0 ≤ G.size x ∧ G.size x ≤ 130) (j : Nat) : 0 ≤ ((G.live.take j).map G.size).sum ∧ ((G.live.take j).map G.size).sum ≤ 130 * (G.live.take j).length := by
  have : ∀ l : List Int, (∀ x ∈ l, 0 ≤ G.size x ∧ G.size x ≤ 130) → 0 ≤ (l.map G.size).sum ∧ (l.map G.size).sum ≤ 130 * l.length := by
    intro l
    induction l with
    | nil => intro _; simp
    | cons x l ih =>
      intro h
      have h1 := h x List.mem_cons_self
      have h2 := ih fun y hy => h y (List.mem_cons_of_mem _ hy)
      rw [List.map_cons, List.sum_cons, List.length_cons]
      omega
  exact this _ fun x hx => hs x (List.mem_of_mem_take hx)

set_option maxHeartbeats 8000000 in
set_option maxRecDepth 100000 in
theorem rgWords (r : Rg w g S G) : Calls Try.prog 14 #[.pointer (some ⟨g, 0, none⟩)] w fun e w' => e = .returned (.int .i64 G.words) ∧ Below w.heap.size w w' := by
  obtain ⟨nb, nc, hA, hc, c0, c1, n1, n2, -, hnd, Sg, Snb, hf, nf⟩ := r.cells
  obtain ⟨N, hN⟩ : ∃ N, G.ns.length = N := ⟨_, rfl⟩
  have HL := Lib.hid (rgLive r)
  have HN := Lib.hid hN
  have lv := r.ok.live
  have K := Lib.hid lv
  have kf := lv.few
  have ND := Lib.hid (fun (i : Nat) (hi : i < G.ns.length) => (show ∃ pb sb, w.cell? ⟨nb, (i + 1) * 2, none⟩ = some (.slice (some ⟨pb, 0, none⟩) (G.node ((i + 1 : Nat) : Int)).1.length (G.node ((i + 1 : Nat) : Int)).1.length) ∧
      w.cell? ⟨nb, (i + 1) * 2 + 1, none⟩ = some (.slice (some ⟨sb, 0, none⟩) (G.node ((i + 1 : Nat) : Int)).2.length (G.node ((i + 1 : Nat) : Int)).2.length) ∧ (G.node ((i + 1 : Nat) : Int)).1.length ≤ 64 ∧ (G.node ((i + 1 : Nat) : Int)).2.length ≤ 64 from by
    obtain ⟨pb, sb, h1, h2, _, _, _, _, h4, h5⟩ := hnd i hi
    exact ⟨pb, sb, h1, h2, h4, h5⟩))
  have SM := Lib.hid (fun j => sum_in (G := G) (fun x hx => by
    obtain ⟨x1, x2⟩ := lv.in_ x hx
    obtain ⟨pb, sb, _, _, _, _, _, _, h4, h5⟩ := hnd (x.toNat - 1) (by omega)
    rw [show (((x.toNat - 1 + 1 : Nat) : Int)) = x by omega] at h4 h5
    unfold Gr.size
    omega) j)
  have gl := r.lt Sg
  have nl := r.lt Snb
  rw [hN] at c0 n1 nf kf
  obtain ⟨M, hM⟩ : ∃ M, G.live.length = M := ⟨_, rfl⟩
  rw [hM] at kf
  have HM := Lib.hid hM
  have C0 := Lib.hid c0
  clear c0 c1 r hnd Sg Snb lv hN hM hf
  go_enter Try.func14, Try.ntmps14
  go_wp2_with fail
  refine HL.out.mono ?_
  rintro e w1 ⟨A, c, rfl, q, _, bel⟩
  rw [HM.out] at q ⊢
  have HQ := Lib.hid q
  have BL := Lib.hid bel
  clear q bel HL
  go_wp2_with fail
  go_loopw [4, 5] (fun s3 s4 wr => ∃ (j m : Nat), j ≤ M ∧ s4 = .int .i64 j ∧ s3 = .int .i64 ((G.live.take j).map G.size).sum ∧ wr = w1.drewN m) (fun _ s4 _ => M - (intOf s4).toNat)
  case atStart => exact ⟨0, 0, Nat.zero_le _, rfl, rfl, rfl⟩
  case round =>
    obtain ⟨j, m, hj, rfl, rfl, rfl⟩ := hrel
    by_cases hlt : j < M
    · obtain ⟨x, hx⟩ : ∃ x, G.live[j]? = some x := ⟨_, List.getElem?_eq_getElem (by rw [HM.out]; exact hlt)⟩
      obtain ⟨x1, x2⟩ := K.out.in_ x (List.mem_of_getElem? hx)
      have TK := Lib.hid (sum_take (f := G.size) hx)
      have s1 := SM.out j
      have l1 : (G.live.take j).length = j := by rw [List.length_take, HM.out]; omega
      rw [l1] at s1
      obtain ⟨i, rfl⟩ : ∃ i : Nat, x = ((i + 1 : Nat) : Int) := ⟨x.toNat - 1, by omega⟩
      rw [HN.out] at x2
      obtain ⟨pb, sb, p1, p2, p3, p4⟩ := ND.out i (by rw [HN.out]; omega)
      have es := Lib.hid (show G.size ((i + 1 : Nat) : Int) = (G.node ((i + 1 : Nat) : Int)).1.length + (G.node ((i + 1 : Nat) : Int)).2.length + 2 from rfl)
      generalize G.size ((i + 1 : Nat) : Int) = z at *
      generalize (G.node ((i + 1 : Nat) : Int)).1.length = P at *
      generalize (G.node ((i + 1 : Nat) : Int)).2.length = Q at *
      generalize ((G.live.take j).map G.size).sum = s at *
      obtain ⟨qb, off, rfl, _, qat, _⟩ := HQ.out.at_ (by omega)
      have d0 : w1.cell? ⟨g, 0, none⟩ = some (.slice (some ⟨nb, 0, none⟩) (N + 1) nc) := (BL.out.cell (p := ⟨g, 0, none⟩) gl).trans C0.out
      have d1 : w1.cell? ⟨nb, (i + 1) * 2, none⟩ = some (.slice (some ⟨pb, 0, none⟩) P P) := (BL.out.cell (p := ⟨nb, (i + 1) * 2, none⟩) nl).trans p1
      have d3 : w1.cell? ⟨nb, (i + 1) * 2 + 1, none⟩ = some (.slice (some ⟨sb, 0, none⟩) Q Q) := (BL.out.cell (p := ⟨nb, (i + 1) * 2 + 1, none⟩) nl).trans p2
      have d2 := qat j _ hx
      clear p1 p2 qat hx l1
      go_wp2_with fail
      go_region
      clear d0 d1 d2 d3
      go_wp2_with fail
      go_roundw
      case rel => exact ⟨j + 1, m + 1, by omega, by go_num, by rw [TK.out, es.out], rfl⟩
      case measure => simp [intOf]; omega
    · obtain rfl : j = M := by omega
      have RE := Lib.hid (show ((G.live.take j).map G.size).sum = G.words from by rw [List.take_of_length_le (by rw [HM.out]; omega)]; rfl)
      rw [RE.out]
      have BE := Lib.hid (below_trans BL.out (below_drewN w1 m))
      clear RE
      go_wp2
      go_ret
      exact ⟨rfl, BE.out⟩
end
end Go.Proofs.Ytjjjeeffllelaaa
