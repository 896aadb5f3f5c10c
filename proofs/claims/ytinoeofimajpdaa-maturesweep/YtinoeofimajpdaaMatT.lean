/- Contract of the program's takePages. -/
import Derived.Test.YtinoeofimajpdaaMatK
import Derived.Test.YtinoeofimajpdaaMatD
namespace Go.Proofs.Ytinoeofimajpdaa
open Go.RowKit

def updU (ub : Nat → Nat) (p nb : Nat) (i : Nat) : Nat := if i = p then nb else ub i

section
variable {w w' : World} {b pb : Nat} {ub : Nat → Nat} {F G : Int} {pgs : List Pg} {ps : List Bool}

/-- A page becomes one that has cells, whose flags lie in a new block. -/
theorem IsSp.made (h : IsSp w b pb ub F G pgs ps) {pgs' : List Pg} {p nb : Nat} {y : Pg} (hl : pgs'.length = pgs.length) (hp : pgs'[p]? = some y) (hy : y.first = true)
    (ho : ∀ (i : Nat) (x : Pg), i ≠ p → pgs'[i]? = some x → x.first = true → pgs[i]? = some x) (hk : ∀ (i : Nat) (x : Pg), i ≠ p → pgs[i]? = some x → x.first = true → pgs'[i]? = some x)
    (hw : WF G pgs') (hn : w.heap.size ≤ nb) (hs : SpB w' b F G pb pgs.length) (hg : Blk w' pb (flat4 pgs.length (stF G pgs' (updU ub p nb) ps)).toArray 62)
    (hf : ∀ (i : Nat) (x : Pg), pgs[i]? = some x → x.first = true → Blk w' (ub i) (x.flags.map Value.bool).toArray 4) (hb : Blk w' nb (y.flags.map Value.bool).toArray 4) :
    IsSp w' b pb (updU ub p nb) F G pgs' ps := by
  refine { h with sp := by rw [hl]; exact hs, pg := by rw [hl]; exact hg, fl := fun i x hx hfx => ?_, inj := fun i k x z hx hz hfx hfz e => ?_, pend := fun i hi => ?_, wf := hw, len := hl.trans h.len }
  · by_cases e : i = p
    · subst e
      rw [hp] at hx
      cases hx
      rw [updU, if_pos rfl]
      exact hb
    · rw [updU, if_neg e]
      exact hf i x (ho i x e hx hfx) hfx
  · unfold updU at e
    by_cases e1 : i = p
    · by_cases e2 : k = p
      · rw [e1, e2]
      · rw [if_pos e1, if_neg e2] at e
        have := (h.fl k z (ho k z e2 hz hfz) hfz).lt
        omega
    · by_cases e2 : k = p
      · rw [if_neg e1, if_pos e2] at e
        have := (h.fl i x (ho i x e1 hx hfx) hfx).lt
        omega
      · rw [if_neg e1, if_neg e2] at e
        exact h.inj i k x z (ho i x e1 hx hfx) (ho k z e2 hz hfz) hfx hfz e
  · obtain ⟨x, hx, hfx⟩ := h.pend i hi
    by_cases e : i = p
    · subst e; exact ⟨y, hp, hy⟩
    · exact ⟨x, hk i x e hx hfx, hfx⟩

theorem Blk.set1 {w : World} {pb N : Nat} {f : Nat → List Value} {T : TypeId} (hf : ∀ i, (f i).length = 4) (h : Blk w pb (flat4 N f).toArray T) (i : Nat) (hi : i < N) {v0 v1 v2 v3 : Value} (hv : f i = [v0, v1, v2, v3]) (v : Value) :
    Blk (w.setCell ⟨pb, i * 4, none⟩ v) pb (flat4 N (setF f i [v, v1, v2, v3])).toArray T := by
  have hb := h.set_ (i * 4) v
  have e : (flat4 N f).toArray.setIfInBounds (i * 4) v = (flat4 N (setF f i [v, v1, v2, v3])).toArray := by
    apply Array.ext'
    simp only [Array.toList_setIfInBounds]
    have hl := flat4_length hf N
    refine flat4_ext (setF_four hf i rfl) (by rw [List.length_set, flat4_length hf]) fun k j hk hj => ?_
    by_cases ek : k = i
    · subst ek
      rw [show setF f k [v, v1, v2, v3] k = [v, v1, v2, v3] from if_pos rfl]
      by_cases ej : j = 0
      · subst ej; rw [Nat.add_zero, List.getElem?_set_self (by omega)]; rfl
      · rw [List.getElem?_set_ne (by omega), flat4_at hf hk hj, hv]
        obtain rfl | rfl | rfl : j = 1 ∨ j = 2 ∨ j = 3 := by omega
        all_goals rfl
    · rw [List.getElem?_set_ne (by omega), flat4_at hf hk hj, show setF f i [v, v1, v2, v3] k = f k from if_neg ek]
  rw [← e]
  exact hb

def later4 : List Value := [.int .i64 3, .int .i64 0, .slice none 0 0, .bool false]

def laterF (f : Nat → List Value) (p m : Nat) (i : Nat) : List Value := if p ≤ i ∧ i < p + m then later4 else f i

theorem laterF_four {f : Nat → List Value} (hf : ∀ i, (f i).length = 4) (p m i : Nat) : (laterF f p m i).length = 4 := by unfold laterF; split; exact rfl; exact hf i

theorem laterF_next (f : Nat → List Value) (p m : Nat) : setF (laterF f p m) (p + m) later4 = laterF f p (m + 1) := by
  funext i
  unfold setF laterF
  by_cases e : i = p + m
  · rw [if_pos e, if_pos ⟨by omega, by omega⟩]
  · rw [if_neg e]
    by_cases c : p ≤ i ∧ i < p + m
    · rw [if_pos c, if_pos ⟨by omega, by omega⟩]
    · rw [if_neg c, if_neg (by omega)]

theorem laterF_none (f : Nat → List Value) (p : Nat) : laterF f p 0 = f := by
  funext i
  unfold laterF
  rw [if_neg (by omega)]

/-- What the loop that takes pages keeps. -/
def LatI (w0 wr : World) (b pb : Nat) (ub : Nat → Nat) (F G : Int) (pgs : List Pg) (ps : List Bool) (p m : Nat) : Prop :=
  SpB wr b F G pb pgs.length ∧ Blk wr pb (flat4 pgs.length (laterF (stF G pgs ub ps) p m)).toArray 62 ∧
  (∀ (i : Nat) (x : Pg), pgs[i]? = some x → x.first = true → Blk wr (ub i) (x.flags.map Value.bool).toArray 4) ∧ Frm (SpS b pb ub pgs) w0 wr

theorem LatI.next {w0 wr : World} {p m : Nat} (h : LatI w0 wr b pb ub F G pgs ps p m) (hm : p + m < pgs.length) (hf : stF G pgs ub ps (p + m) = zero4) :
    LatI w0 (wr.setCell ⟨pb, (p + m) * 4, none⟩ (.int .i64 3)) b pb ub F G pgs ps p (m + 1) := by
  obtain ⟨h1, h2, h3, h4⟩ := h
  have ne : b ≠ pb := Blk.ne_ h1 h2 (by decide)
  refine ⟨Blk.far h1 ne _, ?_, fun i x hx hfx => ?_, ?_⟩
  · rw [← laterF_next]
    exact h2.set1 (laterF_four (stF_four G pgs ub ps) p m) (p + m) hm (show laterF (stF G pgs ub ps) p m (p + m) = zero4 by rw [laterF, if_neg (by omega)]; exact hf) _
  · have hb := h3 i x hx hfx
    exact hb.far (Blk.ne_ hb h2 (by decide)) _
  · exact h4.setCell (p := ⟨pb, (p + m) * 4, none⟩) (fun _ => Or.inr (Or.inl rfl)) _

theorem LatI.keep {w0 wr wr' : World} {p m : Nat} (h : LatI w0 wr b pb ub F G pgs ps p m) (b2 : Below wr.heap.size wr wr') : LatI w0 wr' b pb ub F G pgs ps p m :=
  ⟨Blk.keep h.1 b2, h.2.1.keep b2, fun i x hx hf => (h.2.2.1 i x hx hf).keep b2, h.2.2.2.trans (Frm.of_below (S := SpS b pb ub pgs) b2) (fun _ _ h => h)⟩

theorem LatI.cells {w0 wr : World} {p m i : Nat} (h : LatI w0 wr b pb ub F G pgs ps p m) (hi : i < pgs.length) {v0 v1 v2 v3 : Value} (hv : laterF (stF G pgs ub ps) p m i = [v0, v1, v2, v3]) :
    wr.cell? ⟨pb, i * 4, none⟩ = some v0 ∧ wr.cell? ⟨pb, i * 4 + 1, none⟩ = some v1 ∧ wr.cell? ⟨pb, i * 4 + 2, none⟩ = some v2 ∧ wr.cell? ⟨pb, i * 4 + 3, none⟩ = some v3 ∧ ∀ k, wr.frozen? ⟨pb, k, none⟩ = false := by
  have cell : ∀ t, t < 4 → wr.cell? ⟨pb, i * 4 + t, none⟩ = [v0, v1, v2, v3][t]? := fun t ht => by
    rw [h.2.1.cell, List.getElem?_toArray, flat4_at (laterF_four (stF_four G pgs ub ps) p m) hi ht, hv]
  exact ⟨cell 0 (by omega), cell 1 (by omega), cell 2 (by omega), cell 3 (by omega), h.2.1.frozen⟩
end

theorem setCell_size (w : World) (p : Addr) (u : Value) : (w.setCell p u).heap.size = w.heap.size := by simp [World.setCell]

/-- Four cells of a page's state are written, and a block is made. -/
def putS (wr : World) (pb p : Nat) (v0 v1 v2 v3 : Value) : World := (((wr.setCell ⟨pb, p * 4, none⟩ v0).setCell ⟨pb, p * 4 + 1, none⟩ v1).setCell ⟨pb, p * 4 + 2, none⟩ v2).setCell ⟨pb, p * 4 + 3, none⟩ v3

theorem putS_size (wr : World) (pb p : Nat) (v0 v1 v2 v3 : Value) : (putS wr pb p v0 v1 v2 v3).heap.size = wr.heap.size := by
  unfold putS; rw [setCell_size, setCell_size, setCell_size, setCell_size]

theorem Blk.putS {wr : World} {c pb p : Nat} {cs : Array Value} {T : TypeId} (h : Blk wr c cs T) (hn : c ≠ pb) (v0 v1 v2 v3 : Value) : Blk (putS wr pb p v0 v1 v2 v3) c cs T :=
  (((h.far hn _).far hn _).far hn _).far hn _

theorem Frm.putS {S : Nat → Prop} {a wr : World} {pb p : Nat} (h : Frm S a wr) (hp : S pb) (v0 v1 v2 v3 : Value) : Frm S a (putS wr pb p v0 v1 v2 v3) :=
  (((h.setCell (p := ⟨pb, p * 4, none⟩) (fun _ => hp) _).setCell (p := ⟨pb, p * 4 + 1, none⟩) (fun _ => hp) _).setCell (p := ⟨pb, p * 4 + 2, none⟩) (fun _ => hp) _).setCell (p := ⟨pb, p * 4 + 3, none⟩) (fun _ => hp) _

/-- What is large is there. -/
theorem LatI.big {w wr : World} {b pb : Nat} {ub : Nat → Nat} {F G : Int} {pgs : List Pg} {ps : List Bool} {p C : Nat} (h : IsSp w b pb ub F G pgs ps) (hL : LatI w wr b pb ub F G pgs ps p C) (hp : p + C ≤ pgs.length) (hC : 1 ≤ C) (hr : Run pgs p C) :
    IsSp ((putS wr pb p (.int .i64 2) (.int .i64 (C * G)) (.slice (some ⟨wr.heap.size, 0, none⟩) 1 1) (.bool false)).alloc (.cells #[.bool true] 4)).drew b pb (updU ub p wr.heap.size) F G (bigAt pgs p C) ps ∧
    Frm (SpS b pb ub pgs) w ((putS wr pb p (.int .i64 2) (.int .i64 (C * G)) (.slice (some ⟨wr.heap.size, 0, none⟩) 1 1) (.bool false)).alloc (.cells #[.bool true] 4)).drew ∧
    ∀ k, SpS b pb (updU ub p wr.heap.size) (bigAt pgs p C) k → SpS b pb ub pgs k ∨ w.heap.size ≤ k := by
  obtain ⟨h1, h2, h3, h4⟩ := hL
  have ne : b ≠ pb := Blk.ne_ h1 h2 (by decide)
  have at_ := fun i hi => bigAt_at pgs p C i hi
  have len : (bigAt pgs p C).length = pgs.length := by rw [bigAt, List.length_set, fill_length]
  have hl := h.len
  have ho : ∀ (i : Nat) (x : Pg), i ≠ p → (bigAt pgs p C)[i]? = some x → x.first = true → pgs[i]? = some x := fun i x hne hx hf => by
    have hi := (List.getElem?_eq_some_iff.1 hx).1
    rw [len] at hi
    rw [at_ i hi, if_neg hne] at hx
    split at hx
    · cases hx; cases hf
    · exact hx
  have hk : ∀ (i : Nat) (x : Pg), i ≠ p → pgs[i]? = some x → x.first = true → (bigAt pgs p C)[i]? = some x := fun i x hne hx hf => by
    have hi := (List.getElem?_eq_some_iff.1 hx).1
    rw [at_ i hi, if_neg hne, if_neg (fun hh => by rw [hr i hh.1 hh.2] at hx; cases hx; cases hf)]
    exact hx
  have hpp : (bigAt pgs p C)[p]? = some (.big C) := by rw [at_ p (by omega), if_pos rfl]
  have hg : flat4 pgs.length (stF G (bigAt pgs p C) (updU ub p wr.heap.size) ps) = flat4 pgs.length (setF (laterF (stF G pgs ub ps) p C) p [.int .i64 2, .int .i64 (C * G), .slice (some ⟨wr.heap.size, 0, none⟩) 1 1, .bool false]) := flat4_congr fun i hi => by
    have hq : ps[i]? = some (ps[i]'(by omega)) := List.getElem?_eq_getElem (by omega)
    unfold setF
    by_cases e : i = p
    · subst e
      rw [if_pos rfl, stF_at hpp (h.idle (hr i (by omega) (by omega)) rfl)]
      simp [stV, Pg.kind, Pg.size, Pg.row, Pg.adr, Pg.first, Pg.flags, updU]
    · rw [if_neg e]
      unfold laterF
      by_cases c : p ≤ i ∧ i < p + C
      · rw [if_pos c, stF_at (x := .rest) (by rw [at_ i hi, if_neg e, if_pos c]) (h.idle (hr i c.1 c.2) rfl)]
        rfl
      · rw [if_neg c, stF_at (x := pgs[i]) (by rw [at_ i hi, if_neg e, if_neg c]; exact List.getElem?_eq_getElem hi) hq, stF_at (List.getElem?_eq_getElem hi) hq]
        simp [updU, e]
  have nb : Blk ((putS wr pb p (.int .i64 2) (.int .i64 (C * G)) (.slice (some ⟨wr.heap.size, 0, none⟩) 1 1) (.bool false)).alloc (.cells #[.bool true] 4)) wr.heap.size #[.bool true] 4 := by
    have h := Blk.new (putS wr pb p (.int .i64 2) (.int .i64 (C * G)) (.slice (some ⟨wr.heap.size, 0, none⟩) 1 1) (.bool false)) #[.bool true] 4
    rwa [putS_size] at h
  refine ⟨h.made len hpp rfl ho hk ?_ h4.size (Blk.drew (Blk.alloc (Blk.putS h1 ne _ _ _ _) _)) ?_ (fun i x hx hf => (((h3 i x hx hf).putS (Blk.ne_ (h3 i x hx hf) h2 (by decide)) _ _ _ _).alloc _).drew) nb.drew, ((h4.putS (Or.inr (Or.inl rfl)) _ _ _ _).alloc _).drew, fun k hk2 => ?_⟩
  · exact (Rel.large (F := F) (Rel.mk (List.Perm.refl _) h.wf) hp hC hr).wf
  · rw [hg]
    exact ((h2.set4 (laterF_four (stF_four G pgs ub ps) p C) p (by omega) _ _ _ _).alloc _).drew
  · rcases hk2 with rfl | rfl | ⟨i, x, hx, hf, rfl⟩
    · exact Or.inl (Or.inl rfl)
    · exact Or.inl (Or.inr (Or.inl rfl))
    · unfold updU
      by_cases e : i = p
      · rw [if_pos e]; exact Or.inr h4.size
      · rw [if_neg e]; exact Or.inl (Or.inr (Or.inr ⟨i, x, ho i x e hx hf, hf, rfl⟩))

/-- How a Take ends. -/
def TookM (b pb : Nat) (ub : Nat → Nat) (F G : Int) (pgs : List Pg) (ps : List Bool) (w : World) (T : Value → List Pg → Prop) (e : Ending) (w' : World) : Prop :=
  ∃ u pgs' ub', e = .returned u ∧ T u pgs' ∧ IsSp w' b pb ub' F G pgs' ps ∧ Frm (SpS b pb ub pgs) w w' ∧ ∀ k, SpS b pb ub' pgs' k → SpS b pb ub pgs k ∨ w.heap.size ≤ k

set_option maxHeartbeats 8000000 in
set_option maxRecDepth 100000 in
theorem takePages_any (b pb : Nat) (ub : Nat → Nat) (F G : Int) (pgs : List Pg) (ps : List Bool) (C : Nat) (w : World) (h : IsSp w b pb ub F G pgs ps) (hC : 1 ≤ C) (hm : (C : Int) ≤ 9223372036854775807) :
    Calls Try.prog 29 #[spP b, .int .i64 C] w (TookM b pb ub F G pgs ps w (TakeLA F G pgs C)) := by
  have HR := Lib.hid (row_any b pb ub F G pgs ps C w h hC hm)
  have few := h.p1
  rw [← h.len] at few
  have f0 := h.f0
  have f1 := h.f1
  have g0 := h.g0
  have g1 := h.g1
  have HH := Lib.hid h
  obtain ⟨N, hN⟩ : ∃ N, pgs.length = N := ⟨_, rfl⟩
  rw [hN] at few
  have HN := Lib.hid hN
  clear h hN
  unfold spP at HR ⊢
  go_enter Try.func29, Try.ntmps29
  go_wp2_with fail
  refine HR.out.mono ?_
  rintro e w1 ⟨u, rfl, hA, b1⟩
  rcases hA with ⟨p, hp, hr, hq, rfl⟩ | ⟨hq, rfl⟩
  · have hi := HH.out.keep b1
    have L0 : Hid (LatI w w1 b pb ub F G pgs ps p 0) := Lib.hid ⟨hi.sp, by rw [laterF_none]; exact hi.pg, hi.fl, Frm.of_below b1⟩
    have ZR := Lib.hid (show ∀ i : Nat, p ≤ i → i < p + C → stF G pgs ub ps i = zero4 from fun i h1 h2 => stF_at (hr i h1 h2) (hi.idle (hr i h1 h2) rfl))
    have RR := Lib.hid (And.intro hp (And.intro hr hq))
    rw [HN.out] at hp
    unfold yesV
    clear hr hq hi
    go_wp2_with fail
    go_loopw [18] (fun s18 wr => ∃ m : Nat, m ≤ C ∧ s18 = .int .i64 m ∧ Hid (LatI w wr b pb ub F G pgs ps p m)) (fun s18 _ => C - (intOf s18).toNat)
    case atStart => exact ⟨0, Nat.zero_le _, rfl, L0⟩
    case round =>
      clear L0
      obtain ⟨m, hm2, rfl, HL⟩ := hrel
      obtain ⟨y0, y1, y2, y3⟩ := HL.out.1.three
      rw [HN.out] at y2
      by_cases mlt : m < C
      · obtain ⟨k0, k1, k2, k3, kf⟩ := HL.out.cells (i := p + m) (by rw [HN.out]; omega) (show _ = zero4 by rw [laterF, if_neg (by omega)]; exact ZR.out (p + m) (by omega) (by omega))
        clear y0 y1 k1 k2 k3
        go_wp2
        go_roundw
        case rel => exact ⟨m + 1, by omega, by go_num, Lib.hid (HL.out.next (by rw [HN.out]; omega) (ZR.out (p + m) (by omega) (by omega)))⟩
        case measure => simp [intOf]; omega
      · obtain rfl : m = C := by omega
        obtain ⟨k0, k1, k2, k3, kf⟩ := HL.out.cells (i := p) (by rw [HN.out]; omega) (show _ = later4 by rw [laterF, if_pos ⟨by omega, by omega⟩])
        have cG := page_in (G := G) (i := m) g0 g1 (by omega) (by omega)
        have hw1 : IntKind.i64.wrap ((m : Int) * G) = (m : Int) * G := IntWalk.i64_in _ (by omega)
        have p0 : (0 : Int) ≤ p := by omega
        have p1 : (p : Int) < N := by omega
        have bl : b < wr.heap.size := Blk.lt HL.out.1
        have pl : pb < wr.heap.size := HL.out.2.1.lt
        go_wp2_with fail
        clear y0
        go_region
        all_goals
          have HB := Lib.hid (LatI.big HH.out HL.out RR.out.1 hC RR.out.2.1)
          unfold putS at HB
          generalize World.drew (World.alloc _ _) = W3 at HB ⊢
          have KB := Lib.hid (begin_any b F G p pb (bigAt pgs p m).length _ HB.out.1.sp f0 f1 g0 g1 (by omega) (by omega))
          unfold spP at KB
          clear k0 k1 k2 k3 kf y1 y2 y3 hw1
          go_wp2_with fail
          refine KB.out.mono ?_
          rintro e w2 ⟨rfl, m2, rfl⟩
          go_wp2
          go_ret2
          exact ⟨_, bigAt pgs p m, updU ub p wr.heap.size, rfl, Or.inl ⟨p, RR.out.1, RR.out.2.1, RR.out.2.2, rfl, rfl⟩, HB.out.1.keep (below_drewN _ m2), HB.out.2.1.drewN m2, HB.out.2.2⟩
  · have R := Lib.hid (show TakeLA F G pgs C noV pgs from Or.inr ⟨hq, rfl, rfl⟩)
    clear hq
    unfold noV
    go_wp2
    go_ret2
    exact ⟨_, pgs, ub, rfl, R.out, HH.out.keep b1, Frm.of_below b1, fun k hk => Or.inl hk⟩
end Go.Proofs.Ytinoeofimajpdaa
