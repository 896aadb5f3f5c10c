/- Contract of the program's takeCell. -/
import Derived.Test.YtinoeofimajpdaaMatT
import Derived.Deep.RegionHeld3
namespace Go.Proofs.Ytinoeofimajpdaa
open Go.RowKit

theorem cells_quiet (p s : Int) (w : World) (hp : p ≤ 9223372036854775807) : Calls Try.prog 49 #[.int .i64 p, .int .i64 s] w fun e w' => e = .returned (.int .i64 (cellsI p s)) ∧ w = w' := cells_any p s w hp

theorem us0_eq (K : Nat) : (List.replicate K false).set 0 true = us0 K := by
  apply List.ext_getElem?
  intro i
  unfold us0
  rw [List.getElem?_map]
  by_cases hi : i < K
  · rw [List.getElem?_range hi]
    by_cases e : i = 0
    · subst e; rw [List.getElem?_set_self (by simpa using hi)]; rfl
    · rw [List.getElem?_set_ne (by omega), List.getElem?_replicate, if_pos hi]; simp [e]
  · rw [List.getElem?_eq_none (by simp; omega), List.getElem?_eq_none (by simp; omega)]; rfl

theorem idx_new (K : Nat) (hK : 1 ≤ K) : idxI (List.replicate K false) false = 0 := by
  obtain ⟨m, rfl⟩ : ∃ m, K = m + 1 := ⟨K - 1, by omega⟩
  rfl

/-- What is known when a page has been made a block, whose cells are not in use. -/
def NewI (w0 wr : World) (b pb nb : Nat) (ub : Nat → Nat) (F G : Int) (pgs : List Pg) (ps : List Bool) (p K : Nat) (s : Int) : Prop :=
  SpB wr b F G pb pgs.length ∧ Blk wr pb (flat4 pgs.length (setF (stF G pgs ub ps) p [.int .i64 1, .int .i64 s, .slice (some ⟨nb, 0, none⟩) K K, .bool false])).toArray 62 ∧
  (∀ (i : Nat) (x : Pg), pgs[i]? = some x → x.first = true → Blk wr (ub i) (x.flags.map Value.bool).toArray 4) ∧ Blk wr nb ((List.replicate K false).map Value.bool).toArray 4 ∧ w0.heap.size ≤ nb ∧ Frm (SpS b pb ub pgs) w0 wr

section
variable {w wr : World} {b pb nb : Nat} {ub : Nat → Nat} {F G : Int} {pgs : List Pg} {ps : List Bool} {p K : Nat} {s : Int}

theorem NewI.cells (h : NewI w wr b pb nb ub F G pgs ps p K s) (hp : p < pgs.length) : wr.cell? ⟨pb, p * 4 + 2, none⟩ = some (.slice (some ⟨nb, 0, none⟩) K K) ∧ ∀ k, wr.frozen? ⟨pb, k, none⟩ = false := by
  refine ⟨?_, h.2.1.frozen⟩
  rw [h.2.1.cell, List.getElem?_toArray, flat4_at (setF_four (stF_four G pgs ub ps) p rfl) hp (by omega)]
  unfold setF
  rw [if_pos rfl]
  rfl

/-- Its first cell is taken. -/
theorem NewI.taken (h0 : IsSp w b pb ub F G pgs ps) (h : NewI w wr b pb nb ub F G pgs ps p K s) (hx : pgs[p]? = some .free) (s0 : 4 ≤ s) (s1 : s ≤ G / 2) (hK : K = (G / s).toNat) :
    IsSp (wr.setCell ⟨nb, 0, none⟩ (.bool true)) b pb (updU ub p nb) F G (pgs.set p (.blk s (us0 K))) ps ∧ Frm (SpS b pb ub pgs) w (wr.setCell ⟨nb, 0, none⟩ (.bool true)) ∧
    ∀ k, SpS b pb (updU ub p nb) (pgs.set p (.blk s (us0 K))) k → SpS b pb ub pgs k ∨ w.heap.size ≤ k := by
  obtain ⟨h1, h2, h3, h4, h5, h6⟩ := h
  have hp := (List.getElem?_eq_some_iff.1 hx).1
  have hl := h0.len
  have at_ : ∀ i : Nat, (pgs.set p (.blk s (us0 K)))[i]? = if i = p then some (.blk s (us0 K)) else pgs[i]? := fun i => by
    by_cases e : i = p
    · subst e; rw [List.getElem?_set_self hp, if_pos rfl]
    · rw [List.getElem?_set_ne (by omega), if_neg e]
  have ho : ∀ (i : Nat) (x : Pg), i ≠ p → (pgs.set p (.blk s (us0 K)))[i]? = some x → x.first = true → pgs[i]? = some x := fun i x hne hx _ => by rw [at_, if_neg hne] at hx; exact hx
  have hk : ∀ (i : Nat) (x : Pg), i ≠ p → pgs[i]? = some x → x.first = true → (pgs.set p (.blk s (us0 K)))[i]? = some x := fun i x hne hx _ => by rw [at_, if_neg hne]; exact hx
  have lk : (us0 K).length = K := by simp [us0]
  have hg : flat4 pgs.length (stF G (pgs.set p (.blk s (us0 K))) (updU ub p nb) ps) = flat4 pgs.length (setF (stF G pgs ub ps) p [.int .i64 1, .int .i64 s, .slice (some ⟨nb, 0, none⟩) K K, .bool false]) := flat4_congr fun i hi => by
    have hq : ps[i]? = some (ps[i]'(by omega)) := List.getElem?_eq_getElem (by omega)
    unfold setF
    by_cases e : i = p
    · subst e
      rw [if_pos rfl, stF_at (by rw [at_, if_pos rfl]) (h0.idle hx rfl)]
      simp [stV, Pg.kind, Pg.size, Pg.row, Pg.adr, Pg.first, Pg.flags, updU, lk]
    · rw [if_neg e, stF_at (x := pgs[i]) (by rw [at_, if_neg e]; exact List.getElem?_eq_getElem hi) hq, stF_at (List.getElem?_eq_getElem hi) hq]
      simp [updU, e]
  have fne : ∀ (i : Nat) (x : Pg), pgs[i]? = some x → x.first = true → ub i ≠ nb := fun i x hx hf => by
    have := (h0.fl i x hx hf).lt
    omega
  have wf : WF G (pgs.set p (.blk s (us0 K))) := by
    subst hK
    exact (Rel.fresh (F := F) (Rel.mk (List.Perm.refl _) h0.wf) hx s0 s1).wf
  have nbl : Blk (wr.setCell ⟨nb, 0, none⟩ (.bool true)) nb ((us0 K).map Value.bool).toArray 4 := by
    have h := h4.setBool 0 true
    rwa [us0_eq K] at h
  refine ⟨h0.made (y := .blk s (us0 K)) (by rw [List.length_set]) (by rw [at_, if_pos rfl]) rfl ho hk wf h5 (Blk.far h1 (Blk.ne_ h1 h4 (by decide)) _) ?_ (fun i x hx hf => (h3 i x hx hf).far (fne i x hx hf) _) nbl, h6.setCell (p := ⟨nb, 0, none⟩) (fun hlt => by have : nb < w.heap.size := hlt; omega) _, fun k hk2 => ?_⟩
  · rw [hg]
    exact h2.far (Blk.ne_ h2 h4 (by decide)) _
  · rcases hk2 with rfl | rfl | ⟨i, x, hx, hf, rfl⟩
    · exact Or.inl (Or.inl rfl)
    · exact Or.inl (Or.inr (Or.inl rfl))
    · unfold updU
      by_cases e : i = p
      · rw [if_pos e]; exact Or.inr h5
      · rw [if_neg e]; exact Or.inl (Or.inr (Or.inr ⟨i, x, ho i x e hx hf, hf, rfl⟩))
end

theorem NewI.start {w w2 : World} {b pb : Nat} {ub : Nat → Nat} {F G : Int} {pgs : List Pg} {ps : List Bool} {p K : Nat} {s : Int} (h : IsSp w2 b pb ub F G pgs ps) (hb : Below w.heap.size w w2) (hp : p < pgs.length) :
    NewI w (((putS w2 pb p (.int .i64 1) (.int .i64 s) (.slice (some ⟨w2.heap.size, 0, none⟩) K K) (.bool false)).alloc (.cells (Array.replicate K (Value.bool false)) 4)).drew) b pb w2.heap.size ub F G pgs ps p K s := by
  refine ⟨Blk.drew (Blk.alloc (Blk.putS h.sp h.b_ne _ _ _ _) _), ((h.pg.set4 (stF_four G pgs ub ps) p hp _ _ _ _).alloc _).drew, fun i x hx hf => (((h.fl i x hx hf).putS (h.f_ne hx hf) _ _ _ _).alloc _).drew, ?_, hb.size, (((Frm.of_below hb).putS (Or.inr (Or.inl rfl)) _ _ _ _).alloc _).drew⟩
  have k := Blk.new (putS w2 pb p (.int .i64 1) (.int .i64 s) (.slice (some ⟨w2.heap.size, 0, none⟩) K K) (.bool false)) (Array.replicate K (Value.bool false)) 4
  rw [putS_size] at k
  have e : ((List.replicate K false).map Value.bool).toArray = Array.replicate K (Value.bool false) := by simp
  rw [e]
  exact k.drew

set_option maxHeartbeats 8000000 in
set_option maxRecDepth 100000 in
theorem takeCell_any (b pb : Nat) (ub : Nat → Nat) (F G : Int) (pgs : List Pg) (ps : List Bool) (s : Int) (w : World) (h : IsSp w b pb ub F G pgs ps) (s0 : 4 ≤ s) (s1 : s ≤ G / 2) :
    Calls Try.prog 31 #[spP b, .int .i64 s] w (TookM b pb ub F G pgs ps w (TakeSA F G ps pgs s)) := by
  have HR := Lib.hid (roomy_any b pb ub F G pgs ps s w h)
  have few := h.p1
  rw [← h.len] at few
  have f0 := h.f0
  have f1 := h.f1
  have g0 := h.g0
  have g1 := h.g1
  have HH := Lib.hid h
  obtain ⟨N, hN⟩ : ∃ N, pgs.length = N := ⟨_, rfl⟩
  rw [hN] at few
  have HN := Lib.hid hN
  clear h hN
  unfold spP at HR ⊢
  go_enter Try.func31, Try.ntmps31
  go_wp2_with fail
  refine HR.out.mono ?_
  rintro e w1 ⟨u, rfl, hA, b1⟩
  clear HR
  rcases hA with ⟨p, ⟨us, hx, hps, hfm⟩, hq, rfl⟩ | ⟨hq, rfl⟩
  · have hi := HH.out.keep b1
    obtain ⟨y0, y1, y2, y3⟩ := hi.sp.three
    rw [HN.out] at y2
    have hp := (List.getElem?_eq_some_iff.1 hx).1
    rw [HN.out] at hp
    obtain ⟨q, _, d0, d1, d2, d3, df⟩ := hi.at_ hx
    have fb := hi.fl p _ hx rfl
    have fz := (hi.small hx).2.2.2.2.1
    have hI := index_any (ub p) us false w1 fb (by have : us.length ≤ 64 := fz; omega)
    rcases idxI_cases us false with ⟨j, ej, hj, hjm⟩ | ⟨_, hno⟩
    · rw [ej] at hI
      have HI := Lib.hid hI
      have jl := (List.getElem?_eq_some_iff.1 hj).1
      have fj := fb.bools hj
      have ffz := fb.frozen
      have fz : us.length ≤ 64 := fz
      have SF := Lib.hid (hi.setFlag (j := j) hx true (by
        obtain ⟨k1, k2, k3, _⟩ := HH.out.wf.blk p s us hx
        exact HH.out.wf.turn hx (Or.inr ⟨s, us, rfl⟩) (Or.inr ⟨s, _, rfl, k1, k2, by rw [List.length_set]; exact k3, List.mem_set jl true⟩)))
      have FR := Lib.hid ((Frm.of_below (S := SpS b pb ub pgs) b1).setCell (p := ⟨ub p, j, none⟩) (fun _ => Or.inr (Or.inr ⟨p, _, hx, rfl, rfl⟩)) (.bool true))
      have KB := Lib.hid (begin_any b F G p pb _ _ SF.out.sp f0 f1 g0 g1 (by omega) (by omega))
      have d2' : w1.cell? ⟨pb, p * 4 + 2, none⟩ = some (.slice (some ⟨ub p, 0, none⟩) us.length us.length) := d2
      have RR := Lib.hid (show TakeSA F G ps pgs s (yesV (F + p * G + j * s)) (pgs.set p (.blk s (us.set j true))) from Or.inl ⟨p, j, us, hx, hps, hj, hjm, hq, rfl, rfl⟩)
      have SS := Lib.hid (show ∀ k, SpS b pb ub (pgs.set p (.blk s (us.set j true))) k → SpS b pb ub pgs k ∨ w.heap.size ≤ k from fun k hk => by
        rcases hk with rfl | rfl | ⟨i, x, hx2, hf, rfl⟩
        · exact Or.inl (Or.inl rfl)
        · exact Or.inl (Or.inr (Or.inl rfl))
        · by_cases e : i = p
          · subst e; exact Or.inl (Or.inr (Or.inr ⟨i, _, hx, rfl, rfl⟩))
          · rw [List.getElem?_set_ne (by omega)] at hx2; exact Or.inl (Or.inr (Or.inr ⟨i, x, hx2, hf, rfl⟩)))
      have pG := page_in (G := G) (i := p) g0 g1 (by omega) (by omega)
      have js : 0 ≤ (j : Int) * s ∧ (j : Int) * s ≤ 16384 := by
        have h0 : 0 ≤ (j : Int) * s := Int.mul_nonneg (by omega) (by omega)
        have h1 := Int.mul_le_mul_of_nonneg_right (show (j : Int) ≤ 64 by omega) (show 0 ≤ s by omega)
        omega
      unfold spP at KB
      unfold yesV
      clear hI hi hx hps hfm hq hj hjm ej fb d0 d1 d2 d3 y0 y1
      go_wp2_with fail
      refine HI.out.mono ?_
      rintro e w2 ⟨rfl, rfl⟩
      go_wp2_with fail
      refine KB.out.mono ?_
      rintro e w2 ⟨rfl, m2, rfl⟩
      go_wp2
      go_ret2
      exact ⟨_, _, ub, rfl, RR.out, SF.out.keep (below_drewN _ m2), FR.out.drewN m2, SS.out⟩
    · exact absurd hfm hno
  · have HR1 := Lib.hid (row_any b pb ub F G pgs ps 1 w1 (HH.out.keep b1) (by omega) (by omega))
    unfold spP at HR1
    unfold noV
    have NR := Lib.hid hq
    clear hq
    go_wp2_with fail
    refine HR1.out.mono ?_
    rintro e w2 ⟨u, rfl, hA, b2⟩
    clear HR1
    have bb := below_trans b1 b2
    rcases hA with ⟨p, hp, hr, hq, rfl⟩ | ⟨hq, rfl⟩
    · have hx := hr p (Nat.le_refl _) (by omega)
      have R := Lib.hid (show TakeSA F G ps pgs s (yesV (F + p * G)) (pgs.set p (.blk s (us0 (G / s).toNat))) from Or.inr ⟨NR.out, Or.inl ⟨p, hx, fun q hq2 e => hq q hq2 (fun i h1 h2 => (show q = i by omega) ▸ e), rfl, rfl⟩⟩)
      have hi := HH.out.keep bb
      obtain ⟨y0, y1, y2, y3⟩ := hi.sp.three
      rw [HN.out] at y2 hp
      obtain ⟨q, hq3, d0, d1, d2, d3, df⟩ := hi.at_ hx
      have q2 : 2 ≤ G / s := (Int.le_ediv_iff_mul_le (by omega)).2 (by omega)
      have q3 : G / s ≤ G := Int.ediv_le_self s (by omega)
      have ec : cellsI G s = G / s := by rw [cellsI, if_neg (by omega)]
      obtain ⟨K, hK⟩ : ∃ K : Nat, G / s = K := ⟨(G / s).toNat, by omega⟩
      have HC := Lib.hid (fun W => cells_any G s W (by omega))
      rw [ec, hK] at HC
      rw [hK] at q2 q3 R
      rw [Int.toNat_natCast] at R
      have HK := Lib.hid hK
      have bl : b < w2.heap.size := Blk.lt hi.sp
      have pl : pb < w2.heap.size := hi.pg.lt
      have hmk := run_make_bool K (by omega) (by omega)
      have HX := Lib.hid hx
      have p0 : (0 : Int) ≤ p := by omega
      have p1 : (p : Int) < N := by omega
      have NW := Lib.hid (NewI.start (K := K) (s := s) hi bb (p := p) (by rw [HN.out]; omega))
      unfold putS at NW
      unfold yesV
      clear hr hq ec hK hi hq3 hx
      go_wp2_with fail
      go_region_held3 (fun w' => w'.cell? ⟨b, 1, none⟩ = some (.int .i64 G) ∧ w'.cell? ⟨b, 2, none⟩ = some (.slice (some ⟨pb, 0, none⟩) N N)) (first | exact ⟨NW.out.1.three.2.1, HN.out ▸ NW.out.1.three.2.2.1⟩ | go_keep)
        (first
        | (go_at_call 49; refine (HC.out _).mono ?_; rintro e w3 ⟨rfl, rfl⟩))
      all_goals
        generalize World.drew (World.alloc _ _) = W3 at NW ⊢
        have NT := Lib.hid (NW.out.taken HH.out HX.out s0 s1 (by have := HK.out; omega))
        have hI := index_any w2.heap.size (List.replicate K false) false W3 NW.out.2.2.2.1 (by rw [List.length_replicate]; omega)
        rw [idx_new K (by omega), List.length_replicate] at hI
        have HI := Lib.hid hI
        have z2 := NW.out.1.three.2.2.1
        have z3 := NW.out.1.three.2.2.2
        rw [HN.out] at z2
        obtain ⟨k2, kf⟩ := NW.out.cells (by rw [HN.out]; omega)
        have n0 := NW.out.2.2.2.1.bools (i := 0) (x := false) (by rw [List.getElem?_replicate, if_pos (by omega)])
        have nf := NW.out.2.2.2.1.frozen
        have KB := Lib.hid (begin_any b F G p pb _ _ NT.out.1.sp f0 f1 g0 g1 (by omega) (by omega))
        have pG := page_in (G := G) (i := p) g0 g1 (by omega) (by omega)
        unfold spP at KB
        clear hI NW d0 d1 d2 d3 df y0 y1 y2 y3 hmk bl pl
        go_wp2_with fail
        refine HI.out.mono ?_
        rintro e w3 ⟨rfl, rfl⟩
        go_wp2_with fail
        refine KB.out.mono ?_
        rintro e w3 ⟨rfl, m2, rfl⟩
        go_wp2
        go_ret2
        exact ⟨_, _, _, rfl, R.out, NT.out.1.keep (below_drewN _ m2), NT.out.2.1.drewN m2, NT.out.2.2⟩
    · have R := Lib.hid (show TakeSA F G ps pgs s noV pgs from Or.inr ⟨NR.out, Or.inr ⟨fun q e => hq q (by have := (List.getElem?_eq_some_iff.1 e).1; omega) (fun i h1 h2 => (show q = i by omega) ▸ e), rfl, rfl⟩⟩)
      clear hq
      unfold noV
      go_wp2
      go_ret2
      exact ⟨_, pgs, ub, rfl, R.out, HH.out.keep bb, Frm.of_below bb, fun k hk => Or.inl hk⟩
end Go.Proofs.Ytinoeofimajpdaa
