/- Contracts of the program's find and Size. -/
import Derived.Test.YtinoeofimajpdaaMatM
namespace Go.Proofs.Ytinoeofimajpdaa
open Go.RowKit

/-- The page and the cell of what is in use and begins there. -/
def FindA (F G : Int) (pgs : List Pg) (n : Int) (u : Value) : Prop :=
  (∃ (p j : Nat) (x : Pg), pgs[p]? = some x ∧ x.first = true ∧ x.flags[j]? = some true ∧ n = F + p * G + j * x.size G ∧ u = .tuple #[.int .i64 p, .int .i64 j, .bool true]) ∨
  ((cellsP F G pgs).find? (hitB n) = none ∧ u = .tuple #[.int .i64 0, .int .i64 0, .bool false])

def FindR (F G : Int) (pgs : List Pg) (n : Int) (w : World) (e : Ending) (w' : World) : Prop := ∃ u, e = .returned u ∧ FindA F G pgs n u ∧ Below w.heap.size w w'

theorem find_none {F G n : Int} {pgs : List Pg} (g0 : 1 ≤ G) (wf : WF G pgs) {i : Nat} {x : Pg} (hi : ofI F G n = i) (hx : pgs[i]? = some x) (hno : ∀ j : Nat, x.flags[j]? = some true → n ≠ F + i * G + j * x.size G) :
    (cellsP F G pgs).find? (hitB n) = none := by
  cases e : (cellsP F G pgs).find? (hitB n) with
  | none => rfl
  | some c =>
    obtain ⟨i', j, y, hy, hj, _, hn, hf, hi'⟩ := hit_page g0 wf e
    obtain rfl : i' = i := by omega
    rw [hx] at hy
    cases hy
    exact absurd hn (hno j hf)

theorem find_out {F G n : Int} {pgs : List Pg} (g0 : 1 ≤ G) (wf : WF G pgs) (h : n < F ∨ pgs.length * G ≤ n - F) : (cellsP F G pgs).find? (hitB n) = none := by
  cases e : (cellsP F G pgs).find? (hitB n) with
  | none => rfl
  | some c =>
    obtain ⟨i, j, x, hx, hj, _, hn, hf, _⟩ := hit_page g0 wf e
    have hi := (List.getElem?_eq_some_iff.1 hx).1
    obtain ⟨k0, k1, k2, k3⟩ := hit_in g0 wf hx hj hn
    have p0 : (0 : Int) ≤ (i : Int) * G := Int.mul_nonneg (by omega) (by omega)
    have p1 := Int.mul_le_mul_of_nonneg_right (show (i : Int) + 1 ≤ pgs.length by omega) (show 0 ≤ G by omega)
    rw [Int.add_mul, Int.one_mul] at p1
    omega

theorem first_size {G : Int} {pgs : List Pg} (g0 : 1 ≤ G) (wf : WF G pgs) {i : Nat} {x : Pg} (hx : pgs[i]? = some x) (hf : x.first = true) : 1 ≤ x.size G := by
  cases x with
  | free => cases hf
  | rest => cases hf
  | big c =>
    have := (wf.big i c hx).1
    have h := Int.mul_le_mul_of_nonneg_right (show (1 : Int) ≤ c by omega) (show 0 ≤ G by omega)
    show 1 ≤ (c : Int) * G
    omega
  | blk s us =>
    have := (wf.blk i s us hx).1
    show 1 ≤ s
    omega

theorem quot_cell {a s : Int} {j j' : Nat} (s0 : 1 ≤ s) (hj : a / s = j) (h : a = j' * s) : j = j' := by
  rw [h, Int.mul_ediv_cancel _ (by omega)] at hj
  omega

theorem first_flags {x : Pg} (h : x.first = false) : x.flags = [] := by cases x <;> simp_all [Pg.first, Pg.flags]

theorem first_adr {x : Pg} (h : x.first = true) (u : Nat) : x.adr u = some ⟨u, 0, none⟩ := by unfold Pg.adr; rw [if_pos h]

/-- What is read behind the copy of a page's state. -/
structure Copied (W : World) (c b pb : Nat) (F G : Int) (N u : Nat) (i : Nat) (k s : Int) (us : List Bool) (p : Bool) : Prop where
  copy : Blk W c #[.int .i64 k, .int .i64 s, .slice (some ⟨u, 0, none⟩) us.length us.length, .bool p] 62
  fl : Blk W u (us.map Value.bool).toArray 4
  sp : SpB W b F G pb N

theorem Copied.keep {W W' : World} {c b pb : Nat} {F G : Int} {N u i : Nat} {k s : Int} {us : List Bool} {p : Bool} (h : Copied W c b pb F G N u i k s us p) (hb : Below W.heap.size W W') : Copied W' c b pb F G N u i k s us p :=
  ⟨h.copy.keep hb, h.fl.keep hb, Blk.keep h.sp hb⟩

theorem Copied.cells {W : World} {c b pb : Nat} {F G : Int} {N u i : Nat} {k s : Int} {us : List Bool} {p : Bool} (h : Copied W c b pb F G N u i k s us p) :
    W.cell? ⟨c, 0, none⟩ = some (.int .i64 k) ∧ W.cell? ⟨c, 1, none⟩ = some (.int .i64 s) ∧ W.cell? ⟨c, 2, none⟩ = some (.slice (some ⟨u, 0, none⟩) us.length us.length) ∧ (∀ t, W.frozen? ⟨c, t, none⟩ = false) ∧ (∀ t, W.frozen? ⟨u, t, none⟩ = false) :=
  ⟨h.copy.cell 0, h.copy.cell 1, h.copy.cell 2, h.copy.frozen, h.fl.frozen⟩

theorem Copied.begins {W : World} {c b pb : Nat} {F G : Int} {N u i : Nat} {k s : Int} {us : List Bool} {p : Bool} (h : Copied W c b pb F G N u i k s us p) (f0 : 0 ≤ F) (f1 : F ≤ 1048576) (g0 : 1 ≤ G) (g1 : G ≤ 256) (i1 : i ≤ 64) (m : Nat) :
    Calls Try.prog 46 #[.pointer (some ⟨b, 0, none⟩), .int .i64 i] (W.drewN m) fun e w' => e = .returned (.int .i64 (F + i * G)) ∧ ∃ n, w' = (W.drewN m).drewN n :=
  begin_any b F G i pb N (W.drewN m) (h.keep (below_drewN _ m)).sp f0 f1 g0 g1 (by omega) (by omega)

set_option maxHeartbeats 8000000 in
set_option maxRecDepth 100000 in
theorem mFind_any (b pb : Nat) (ub : Nat → Nat) (F G : Int) (pgs : List Pg) (ps : List Bool) (n : Int) (w : World) (h : IsSp w b pb ub F G pgs ps) (n0 : -9223372036854775808 ≤ n) (n1 : n ≤ 9223372036854775807) :
    Calls Try.prog 37 #[spP b, .int .i64 n] w (FindR F G pgs n w) := by
  have few := h.p1
  rw [← h.len] at few
  have f0 := h.f0
  have f1 := h.f1
  have g0 := h.g0
  have g1 := h.g1
  have wf := Lib.hid h.wf
  obtain ⟨c0, c1, c2, cf⟩ := h.sp.three
  have HH := Lib.hid h
  obtain ⟨N, hN⟩ : ∃ N, pgs.length = N := ⟨_, rfl⟩
  rw [hN] at few c2
  have HN := Lib.hid hN
  have hNG := page_in (G := G) (i := N) g0 g1 (by omega) (by omega)
  clear h hN
  unfold spP
  by_cases lo : n < F
  · have R := Lib.hid (show FindA F G pgs n (.tuple #[.int .i64 0, .int .i64 0, .bool false]) from Or.inr ⟨find_out g0 wf.out (Or.inl lo), rfl⟩)
    have lod : decide (n < F) = true := decide_eq_true lo
    go_enter Try.func37, Try.ntmps37
    go_wp2_with fail
    go_big_quiet (fail)
    go_wp2
    go_ret3
    exact ⟨_, rfl, R.out, below_drewN _ _⟩
  · have lod : decide (n < F) = false := decide_eq_false lo
    have hw1 : IntKind.i64.wrap (n - F) = n - F := IntWalk.i64_in _ (by omega)
    have hw2 : IntKind.i64.wrap (N * G) = N * G := IntWalk.i64_in _ (by omega)
    by_cases hi : N * G ≤ n - F
    · have R := Lib.hid (show FindA F G pgs n (.tuple #[.int .i64 0, .int .i64 0, .bool false]) from Or.inr ⟨find_out g0 wf.out (Or.inr (by rw [HN.out]; exact hi)), rfl⟩)
      have hid : decide (N * G ≤ n - F) = true := decide_eq_true hi
      go_enter Try.func37, Try.ntmps37
      go_wp2_with fail
      go_big_quiet (fail)
      go_wp2
      go_ret3
      exact ⟨_, rfl, R.out, below_drewN _ _⟩
    · have hid : decide (N * G ≤ n - F) = false := decide_eq_false hi
      have q0 : 0 ≤ (n - F) / G := Int.ediv_nonneg (by omega) (by omega)
      have q1 : (n - F) / G < N := Int.ediv_lt_of_lt_mul (by omega) (by omega)
      obtain ⟨i, ei⟩ : ∃ i : Nat, (n - F) / G = i := ⟨((n - F) / G).toNat, by omega⟩
      have hq : (n - F).tdiv G = (i : Int) := by rw [tdiv_of (by omega), ei]
      have i1 : (i : Int) < N := by omega
      have hof : Hid (ofI F G n = i) := Lib.hid hq
      have rem0 := Int.mul_ediv_add_emod (n - F) G
      have rem1 := Int.emod_nonneg (n - F) (show G ≠ 0 by omega)
      have rem2 := Int.emod_lt_of_pos (n - F) (show 0 < G by omega)
      rw [ei, Int.mul_comm] at rem0
      have iG := page_in (G := G) (i := i) g0 g1 (by omega) (by omega)
      have r0 : 0 ≤ n - (F + i * G) := by omega
      have r1 : n - (F + i * G) < G := by omega
      have nb : n ≤ 2000000 := by omega
      clear rem0 rem1 rem2 q0 q1 ei
      obtain ⟨x, hx⟩ : ∃ x, pgs[i]? = some x := ⟨_, List.getElem?_eq_getElem (by have := HN.out; omega)⟩
      obtain ⟨p, hp, _⟩ := HH.out.at_ hx
      have ce := fun (W : World) (hb : Below w.heap.size w W) => (show W.cell? ⟨b, 2, none⟩ = some (.slice (some ⟨pb, 0, none⟩) N N) ∧ (∀ t, W.frozen? ⟨b, t, none⟩ = false) ∧ W.cell? ⟨pb, i * 4, none⟩ = some (.int .i64 x.kind) ∧ W.cell? ⟨pb, i * 4 + 1, none⟩ = some (.int .i64 (x.size G)) ∧ W.cell? ⟨pb, i * 4 + 2, none⟩ = some (.slice (x.adr (ub i)) x.flags.length x.flags.length) ∧ W.cell? ⟨pb, i * 4 + 3, none⟩ = some (.bool p) ∧ (∀ t, W.frozen? ⟨pb, t, none⟩ = false) from by
        have k := HH.out.keep hb
        obtain ⟨p', hp', z0, z1, z2, z3, zf⟩ := k.at_ hx
        obtain rfl : p = p' := by rw [hp] at hp'; simpa using hp'
        exact ⟨by rw [← HN.out]; exact k.sp.three.2.2.1, k.sp.three.2.2.2, z0, z1, z2, z3, zf⟩)
      have HX := Lib.hid hx
      have HO := Lib.hid (fun W => holds_any x.kind (x.size G) (.slice (x.adr (ub i)) x.flags.length x.flags.length) p W)
      rw [kind_first] at HO
      cases ff : x.first
      · rw [ff] at HO
        have R := Lib.hid (show FindA F G pgs n (.tuple #[.int .i64 0, .int .i64 0, .bool false]) from Or.inr ⟨find_none g0 wf.out hof.out hx (fun j hj => by rw [first_flags ff] at hj; simp at hj), rfl⟩)
        have CE := Lib.hid ce
        clear hx hp ff ce
        go_enter Try.func37, Try.ntmps37
        go_wp2_with fail
        go_big_quiet (fail)
        go_wp2_with fail
        go_big_quiet (fail)
        generalize hW : (w.drewN _).drewN _ = W1
        have bw : Below w.heap.size w W1 := hW ▸ below_trans (below_drewN w _) (below_drewN _ _)
        obtain ⟨z, zf, d0, d1, d2, d3, df⟩ := CE.out W1 bw
        clear hw1 hw2 hW c0 c1 c2 cf
        go_wp2_with fail
        refine (HO.out _).mono ?_
        rintro e w1 ⟨rfl, b1⟩
        go_wp2
        go_ret3
        exact ⟨_, rfl, R.out, below_trans (bw.alloc bw.size _) b1⟩
      · rw [ff] at HO
        have s0 := first_size g0 wf.out hx ff
        have s1 := (HH.out.small hx).2.2.2.1
        have fz := (HH.out.small hx).2.2.2.2.1
        have hfl := Lib.hid (HH.out.fl i x hx ff)
        have ea := first_adr ff (ub i)
        rw [ea] at HO
        simp only [ea] at ce
        have FF := Lib.hid ff
        clear ea ff hx hp
        obtain ⟨s, es⟩ : ∃ s, x.size G = s := ⟨_, rfl⟩
        obtain ⟨us, eu⟩ : ∃ us, x.flags = us := ⟨_, rfl⟩
        obtain ⟨k, ek⟩ : ∃ k, x.kind = k := ⟨_, rfl⟩
        simp only [es, eu, ek] at ce
        rw [es] at HO s0 s1
        rw [eu] at HO hfl fz
        rw [ek] at HO
        have CE := Lib.hid ce
        clear ce
        have ES := Lib.hid es
        have EU := Lib.hid eu
        clear es eu ek
        have q0 : 0 ≤ (n - (F + i * G)) / s := Int.ediv_nonneg (by omega) (by omega)
        have q1 : (n - (F + i * G)) / s ≤ n - (F + i * G) := Int.ediv_le_self s (by omega)
        obtain ⟨j, ej⟩ : ∃ j : Nat, (n - (F + i * G)) / s = j := ⟨((n - (F + i * G)) / s).toNat, by omega⟩
        have hq2 : (n - (F + i * G)).tdiv s = (j : Int) := by rw [tdiv_of (by omega), ej]
        have hw3 : IntKind.i64.wrap (n - (F + i * G)) = n - (F + i * G) := IntWalk.i64_in _ (by omega)
        have EJ := Lib.hid ej
        have j0 : (0 : Int) ≤ j := by omega
        have j1 : (j : Int) ≤ 256 := by omega
        have js0 : (0 : Int) ≤ j * s := Int.mul_nonneg j0 (by omega)
        have js1 : (j : Int) * s ≤ n - (F + i * G) := by
          have := Int.ediv_mul_le (n - (F + i * G)) (show s ≠ 0 by omega)
          rwa [ej] at this
        clear ej q0 q1
        have none_ : (∀ t : Nat, us[t]? = some true → n ≠ F + i * G + t * s) → FindA F G pgs n (.tuple #[.int .i64 0, .int .i64 0, .bool false]) := fun hno =>
          Or.inr ⟨find_none g0 wf.out hof.out HX.out (by rw [EU.out, ES.out]; exact hno), rfl⟩
        have same : ∀ t : Nat, n = F + i * G + t * s → j = t := fun t ht => quot_cell s0 EJ.out (by omega)
        have NO := Lib.hid none_
        have SM := Lib.hid same
        clear none_ same
        have hw4 : IntKind.i64.wrap (j * s) = j * s := IntWalk.i64_in _ (by omega)
        have hw5 : IntKind.i64.wrap (F + i * G + j * s) = F + i * G + j * s := IntWalk.i64_in _ (by omega)
        by_cases jl : j < us.length
        · obtain ⟨y, hy⟩ : ∃ y, us[j]? = some y := ⟨_, List.getElem?_eq_getElem jl⟩
          have HY := Lib.hid hy
          have jd1 : decide ((us.length : Int) ≤ (j : Int)) = false := decide_eq_false (by omega)
          have jd2 : decide (us.length ≤ j) = false := decide_eq_false (by omega)
          have jl2 : (j : Int) < us.length := by omega
          clear hy
          go_enter Try.func37, Try.ntmps37
          go_wp2_with fail
          go_big_quiet (fail)
          go_wp2_with fail
          go_big_quiet (fail)
          generalize hW : (w.drewN _).drewN _ = W1
          have bw : Below w.heap.size w W1 := hW ▸ below_trans (below_drewN w _) (below_drewN _ _)
          obtain ⟨z, zf, d0, d1, d2, d3, df⟩ := CE.out W1 bw
          clear hw1 hw2 hW c0 c1 c2 cf
          go_wp2_with fail
          refine (HO.out _).mono ?_
          rintro e w1 ⟨rfl, b1⟩
          have bb : Below w.heap.size w w1 := below_trans (bw.alloc bw.size _) b1
          have cp : Copied w1 W1.heap.size b pb F G pgs.length (ub i) i k s us p := ⟨(Blk.new W1 _ _).keep b1, hfl.out.keep bb, (HH.out.keep bb).sp⟩
          have CP := Lib.hid cp
          obtain ⟨e0, e1, e2, e3, e5⟩ := cp.cells
          have e4 := cp.fl.bools HY.out
          have KO := Lib.hid (cp.begins f0 f1 g0 g1 (by omega))
          have BB := Lib.hid bb
          clear b1 bb cp d0 d1 d2 d3 df z zf
          cases y
          · have R := Lib.hid (NO.out (fun t ht hn => by have := SM.out t hn; subst this; rw [HY.out] at ht; cases ht))
            go_wp2_with fail
            go_big_quiet ((go_at_call 46; refine Calls.quiet_of (KO.out _)))
            generalize hW2 : w1.drewN _ = W2
            have b2 : Below w1.heap.size w1 W2 := hW2 ▸ below_drewN w1 _
            have cp2 := CP.out.keep b2
            obtain ⟨z0, z1, z2, z3, z5⟩ := cp2.cells
            have z4 := cp2.fl.bools HY.out
            have KO2 := Lib.hid (cp2.begins f0 f1 g0 g1 (by omega))
            have BB2 := Lib.hid (below_trans BB.out b2)
            clear hW2 b2 cp2 KO e0 e1 e2 e3 e5 e4
            go_wp2_with fail
            go_big_quiet ((go_at_call 46; refine Calls.quiet_of (KO2.out _)))
            go_wp2
            go_ret3
            exact ⟨_, rfl, R.out, below_trans BB2.out (below_drewN _ _)⟩
          · by_cases en : n = F + i * G + j * s
            · have R := Lib.hid (show FindA F G pgs n (.tuple #[.int .i64 i, .int .i64 j, .bool true]) from Or.inl ⟨i, j, x, HX.out, FF.out, by rw [EU.out]; exact HY.out, by rw [ES.out]; exact en, rfl⟩)
              have ed : (n != F + i * G + j * s) = false := by simpa using en
              have ed2 : (n == F + i * G + j * s) = true := by simpa using en
              clear en
              go_wp2_with fail
              go_big_quiet ((go_at_call 46; refine Calls.quiet_of (KO.out _)))
              generalize hW2 : w1.drewN _ = W2
              have b2 : Below w1.heap.size w1 W2 := hW2 ▸ below_drewN w1 _
              have cp2 := CP.out.keep b2
              obtain ⟨z0, z1, z2, z3, z5⟩ := cp2.cells
              have z4 := cp2.fl.bools HY.out
              have KO2 := Lib.hid (cp2.begins f0 f1 g0 g1 (by omega))
              have BB2 := Lib.hid (below_trans BB.out b2)
              clear hW2 b2 cp2 KO e0 e1 e2 e3 e5 e4
              go_wp2_with fail
              go_big_quiet ((go_at_call 46; refine Calls.quiet_of (KO2.out _)))
              go_wp2
              go_ret3
              exact ⟨_, rfl, R.out, below_trans BB2.out (below_drewN _ _)⟩
            · have R := Lib.hid (NO.out (fun t ht hn => by have := SM.out t hn; subst this; exact en hn))
              have ed : (n != F + i * G + j * s) = true := by simpa using en
              have ed2 : (n == F + i * G + j * s) = false := by simpa using en
              go_wp2_with fail
              go_big_quiet ((go_at_call 46; refine Calls.quiet_of (KO.out _)))
              generalize hW2 : w1.drewN _ = W2
              have b2 : Below w1.heap.size w1 W2 := hW2 ▸ below_drewN w1 _
              have cp2 := CP.out.keep b2
              obtain ⟨z0, z1, z2, z3, z5⟩ := cp2.cells
              have z4 := cp2.fl.bools HY.out
              have KO2 := Lib.hid (cp2.begins f0 f1 g0 g1 (by omega))
              have BB2 := Lib.hid (below_trans BB.out b2)
              clear hW2 b2 cp2 KO e0 e1 e2 e3 e5 e4
              go_wp2_with fail
              go_big_quiet ((go_at_call 46; refine Calls.quiet_of (KO2.out _)))
              go_wp2
              go_ret3
              exact ⟨_, rfl, R.out, below_trans BB2.out (below_drewN _ _)⟩
        · have R := Lib.hid (NO.out (fun t ht hn => by have := SM.out t hn; subst this; rw [List.getElem?_eq_none (by omega)] at ht; cases ht))
          have jd1 : decide ((us.length : Int) ≤ (j : Int)) = true := decide_eq_true (by omega)
          have jd2 : decide (us.length ≤ j) = true := decide_eq_true (by omega)
          go_enter Try.func37, Try.ntmps37
          go_wp2_with fail
          go_big_quiet (fail)
          go_wp2_with fail
          go_big_quiet (fail)
          generalize hW : (w.drewN _).drewN _ = W1
          have bw : Below w.heap.size w W1 := hW ▸ below_trans (below_drewN w _) (below_drewN _ _)
          obtain ⟨z, zf, d0, d1, d2, d3, df⟩ := CE.out W1 bw
          clear hw1 hw2 hW c0 c1 c2 cf
          go_wp2_with fail
          refine (HO.out _).mono ?_
          rintro e w1 ⟨rfl, b1⟩
          have bb : Below w.heap.size w w1 := below_trans (bw.alloc bw.size _) b1
          have cp : Copied w1 W1.heap.size b pb F G pgs.length (ub i) i k s us p := ⟨(Blk.new W1 _ _).keep b1, hfl.out.keep bb, (HH.out.keep bb).sp⟩
          have CP := Lib.hid cp
          obtain ⟨e0, e1, e2, e3, e5⟩ := cp.cells
          have KO := Lib.hid (cp.begins f0 f1 g0 g1 (by omega))
          have BB := Lib.hid bb
          clear b1 bb cp d0 d1 d2 d3 df z zf
          go_wp2_with fail
          go_big_quiet ((go_at_call 46; refine Calls.quiet_of (KO.out _)))
          generalize hW2 : w1.drewN _ = W2
          have b2 : Below w1.heap.size w1 W2 := hW2 ▸ below_drewN w1 _
          have cp2 := CP.out.keep b2
          obtain ⟨z0, z1, z2, z3, z5⟩ := cp2.cells
          have KO2 := Lib.hid (cp2.begins f0 f1 g0 g1 (by omega))
          have BB2 := Lib.hid (below_trans BB.out b2)
          clear hW2 b2 cp2 KO e0 e1 e2 e3 e5
          go_wp2_with fail
          go_big_quiet ((go_at_call 46; refine Calls.quiet_of (KO2.out _)))
          go_wp2
          go_ret3
          exact ⟨_, rfl, R.out, below_trans BB2.out (below_drewN _ _)⟩
end Go.Proofs.Ytinoeofimajpdaa
