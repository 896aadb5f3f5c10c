/- The program's graph: Words; Nodes and Words of a graph that is none. -/
import Derived.Test.YtjjjeeffllelaaaGgL
namespace Go.Proofs.Ytjjjeeffllelaaa
open Go.RowKit Go.Maps

section
variable {w : World} {g hb : Nat} {nd : List Pd} {G : Gr}

set_option maxHeartbeats 8000000 in
set_option maxRecDepth 100000 in
theorem words_any (i0 : IsP w g hb nd G.hs G.lg) (eN : G.ns = nd.map Pd.two) (few : nd.length ≤ 1048576) : Calls Try.prog 13 #[gP g] w fun e w' => e = .returned (.int .i64 G.words) ∧ Below w.heap.size w w' := by
  have hl : G.ns.length = nd.length := by rw [eN, List.length_map]
  have HM := Lib.hid (met_any i0 eN few)
  have HG := Lib.hid (And.intro i0 eN)
  have lv : LiveL nd.length G.live := by have := (i0.ok eN).live; rwa [hl] at this
  have HV := Lib.hid lv
  have mf := lv.few
  have gl := i0.blk.lt
  have SM := Lib.hid (fun j => sum_in (G := G) (fun x hx => by
    obtain ⟨x1, x2⟩ := lv.in_ x hx
    obtain ⟨k, y, rfl, hy, ey, ek⟩ := nodeP_at eN (x := x) (by omega) x2
    have := i0.size y (List.mem_of_getElem? hy)
    unfold Gr.size
    rw [ey]
    dsimp only
    omega) j)
  clear i0 eN hl lv
  obtain ⟨M, hM⟩ : ∃ M, G.live.length = M := ⟨_, rfl⟩
  rw [hM] at mf
  have HL := Lib.hid hM
  clear hM
  unfold gP at *
  go_enter Try.func13, Try.ntmps13
  go_wp2_with fail
  refine HM.out.mono ?_
  rintro e w1 ⟨vO, mb, rfl, b1, ro, hm, ml⟩
  rw [HL.out] at ro
  have R1 := Lib.hid b1
  have hO := own_at ro
  have hv : ∃ A cap, vO = .slice A M cap ∧ cap ≤ maxLen := by
    rcases hO with ⟨e1, e2⟩ | ⟨gq, cap, e1, _, _, _, k, _⟩
    · exact ⟨none, 0, by rw [e1, e2], Nat.zero_le _⟩
    · exact ⟨_, cap, e1, k⟩
  obtain ⟨AO, capO, rfl, cm⟩ := hv
  have HO := Lib.hid hO
  clear hO b1 ro hm ml HM
  go_wp2_with fail
  go_loopw [3, 7, 17] (fun s3 _ s17 wr => ∃ (j m : Nat), j ≤ M ∧ s17 = .int .i64 j ∧ s3 = .int .i64 ((G.live.take j).map G.size).sum ∧ wr = w1.drewN m) (fun _ _ s17 _ => M - (intOf s17).toNat)
  case atStart => exact ⟨0, 0, Nat.zero_le _, rfl, rfl, rfl⟩
  case round =>
    obtain ⟨j, m, hj, rfl, rfl, rfl⟩ := hrel
    by_cases hlt : j < M
    · obtain ⟨x, hx⟩ : ∃ x, G.live[j]? = some x := ⟨_, List.getElem?_eq_getElem (by rw [HL.out]; exact hlt)⟩
      obtain ⟨x1, x2⟩ := HV.out.in_ x (List.mem_of_getElem? hx)
      have TK := Lib.hid (sum_take (f := G.size) hx)
      have s1 := SM.out j
      have l1 : (G.live.take j).length = j := by rw [List.length_take, HL.out]; omega
      rw [l1] at s1
      obtain ⟨k, y, rfl, hy, ey, ek⟩ := nodeP_at HG.out.2 (x := x) (by omega) x2
      have mem := List.mem_of_getElem? hy
      rcases HO.out with ⟨_, e⟩ | ⟨gq, cap, e1, glow, gql, n1, n2, hat⟩
      · omega
      · cases e1
        have d1 : w1.cell? ⟨gq, j, none⟩ = some (.pointer (some ⟨y.nb, 0, none⟩)) := by
          rw [hat j (ptV (bls nd) ((k + 1 : Nat) : Int)) (by simp [ptVs, hx]), ptV_at hy]
        have kb := (HG.out.1.box y mem).keep R1.out
        have d2 := kb.cell 0
        have d3 := kb.cell 1
        have lb := kb.lt
        have hz := HG.out.1.size y mem
        have es := Lib.hid (show G.size ((k + 1 : Nat) : Int) = y.ps.length + y.ss.length + 2 from by unfold Gr.size; rw [ey])
        unfold pdB at d2 d3
        clear hx hat kb mem hy ey ek x1 x2 l1 glow
        generalize G.size ((k + 1 : Nat) : Int) = z at *
        generalize y.nb = nb at *
        generalize y.pb = pb at *
        generalize y.sb = sb at *
        generalize y.ps.length = P at *
        generalize y.ss.length = Q at *
        generalize ((G.live.take j).map G.size).sum = s at *
        go_wp2_with fail
        go_region
        clear d1 d2 d3
        go_wp2_with fail
        go_roundw
        case rel => exact ⟨j + 1, m + 1, by omega, by go_num, by rw [TK.out, es.out], rfl⟩
        case measure => simp [intOf]; omega
    · obtain rfl : j = M := by omega
      have RE := Lib.hid (show ((G.live.take j).map G.size).sum = G.words from by rw [List.take_of_length_le (by rw [HL.out]; omega)]; rfl)
      rw [RE.out]
      have BE := Lib.hid (below_trans R1.out (below_drewN w1 m))
      clear RE
      go_wp2
      go_ret
      exact ⟨rfl, BE.out⟩
end

set_option maxHeartbeats 4000000 in
theorem words_none (w : World) : Calls Try.prog 13 #[.pointer none] w fun e w' => e = .returned (.int .i64 0) ∧ w = w' := by
  go_enter Try.func13, Try.ntmps13
  go_wp2
  go_ret
  exact ⟨rfl, rfl⟩
set_option maxHeartbeats 4000000 in
theorem nodes_none (w : World) : Calls Try.prog 15 #[.pointer none] w fun e w' => e = .returned (.tuple #[.slice none 0 0, .slice none 0 0]) ∧ w = w' := by
  go_enter Try.func15, Try.ntmps15
  go_wp2
  go_ret2
  exact ⟨rfl, rfl⟩

section
variable {w : World} {g : Nat} {S : Nat → Prop} {G : Gr}
theorem pgNodes (r : Pg w g S G) (few : G.ns.length ≤ 1048576) : Calls Try.prog 15 #[gP g] w (NodesR w G) := by
  obtain ⟨hb, nd, hi, e, _⟩ := r
  exact nodes_any hi e (by rwa [e, List.length_map] at few)
theorem pgWords (r : Pg w g S G) (few : G.ns.length ≤ 1048576) : Calls Try.prog 13 #[gP g] w fun e w' => e = .returned (.int .i64 G.words) ∧ Below w.heap.size w w' := by
  obtain ⟨hb, nd, hi, e, _⟩ := r
  exact words_any hi e (by rwa [e, List.length_map] at few)
theorem Pg.ok (r : Pg w g S G) : G.Ok := by
  obtain ⟨hb, nd, hi, e, _⟩ := r
  exact hi.ok e
end
end Go.Proofs.Ytjjjeeffllelaaa
