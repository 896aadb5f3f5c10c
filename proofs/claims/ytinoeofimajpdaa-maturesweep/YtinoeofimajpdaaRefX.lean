/- Contract of the document's Take: of nothing, and of what is large. -/
import Derived.Test.YtinoeofimajpdaaRefW
namespace Go.Proofs.Ytinoeofimajpdaa
open Go.RowKit

/-- Behind an append to the row the space itself reads as before. -/
theorem IsRf.grown {W w1 : World} {a : Nat} {F P G : Int} {v : Value} {cs : List Rc} {pb : Nat} {ps : List Bool} (h : IsRf W a F P G v cs pb ps) (hg : W.grownBy w1 v.ownBlock) :
    w1.cell? ⟨a, 3, none⟩ = some v ∧ w1.frozen? ⟨a, 3, none⟩ = false := by
  have ne : some a ≠ v.ownBlock := fun e => by
    rcases h.row.2 with ⟨rfl, _⟩ | ⟨g, cap, cur', rfl, _, hg', _⟩
    · cases e
    · have hB : Blk W g cur' 58 := hg'
      cases e
      exact Blk.ne_ h.sp hB (by decide) rfl
  have s1 : Blk w1 a _ _ := (hg.block a h.sp.lt ne).trans h.sp
  exact ⟨s1.five.2.2.2.1, s1.frozen 3⟩

theorem IsRf.allocd {w : World} {a : Nat} {F P G : Int} {v : Value} {cs : List Rc} {pb : Nat} {ps : List Bool} (h : IsRf w a F P G v cs pb ps) (o : Obj) : IsRf (w.alloc o) a F P G v cs pb ps :=
  h.keep ((Below.refl _ _).alloc (Nat.le_refl _) o)

theorem grown_frm {W w1 : World} {a pb : Nat} {v : Value} (hg : W.grownBy w1 v.ownBlock) : Frm (Rf a pb v) W w1 :=
  ⟨hg.os, hg.tape, hg.output, hg.size, fun k hk hn => hg.block k hk fun e => hn (Or.inr (Or.inr e.symm))⟩

/-- Of the row that held v's cells one more cell is made; it takes v's place. -/
theorem IsRf.app {W w1 : World} {a : Nat} {F P G : Int} {v u : Value} {cs : List Rc} {pb : Nat} {ps : List Bool} {d : Rc} (h : IsRf W a F P G v cs pb ps) (hg : W.grownBy w1 v.ownBlock)
    (o : w1.ownsRow 0 58 4 u (cs.length + 1) (rcV cs ++ d.vs)) (hd : Sane d) (hf : cs.length + 1 ≤ 1000000) :
    IsRf (w1.setCell ⟨a, 3, none⟩ u) a F P G u (cs ++ [d]) pb ps := by
  have ne : ∀ b t cur, Blk W b cur t → t ≠ 58 → some b ≠ v.ownBlock := fun b t cur hb ht e => by
    rcases h.row.2 with ⟨rfl, _⟩ | ⟨g, cap, cur', rfl, _, hg', _⟩
    · cases e
    · have hB : Blk W g cur' 58 := hg'
      cases e
      exact Blk.ne_ hb hB ht rfl
  have s1 : Blk w1 a _ _ := (hg.block a h.sp.lt (ne a _ _ h.sp (by decide))).trans h.sp
  have p1 : Blk w1 pb _ _ := (hg.block pb h.pend.lt (ne pb _ _ h.pend (by decide))).trans h.pend
  refine { h with sp := s1.set_ 3 u, row := ?_, pend := p1.far (p := ⟨a, 3, none⟩) (Blk.ne_ h.pend h.sp (by decide)) _, sane := ?_, few := by simpa using hf }
  · rw [rcV_snoc, List.length_append, List.length_singleton]
    refine ⟨o.1, o.2.imp id ?_⟩
    rintro ⟨g, cap, cur, e1, e2, e3, e4⟩
    have hB : Blk w1 g cur 58 := e3
    exact ⟨g, cap, cur, e1, e2, hB.far (p := ⟨a, 3, none⟩) (Blk.ne_ hB s1 (by decide)) _, e4⟩
  · intro c hc
    rcases List.mem_append.1 hc with hc | hc
    · exact h.sane c hc
    · obtain rfl : c = d := by simpa using hc
      exact hd

set_option maxHeartbeats 4000000 in
set_option maxRecDepth 100000 in
theorem refTake_none (a : Nat) (n : Int) (w : World) (hn : n < 1) :
    Calls Try.prog 11 #[spP a, .int .i64 n] w fun e w' => e = .returned (.tuple #[.int .i64 0, .bool false]) ∧ w = w' := by
  unfold spP
  go_enter Try.func11, Try.ntmps11
  go_wp2
  go_ret2
  exact ⟨rfl, rfl⟩

/-- Are C pages from p on free? -/
def runB (F G : Int) (cs : List Rc) (p C : Nat) : Bool := (List.range C).all fun k => freeB F G cs ((p + k : Nat) : Int)

/-- What Take of something large does: the first pages side by side that are free. -/
def TakeL (F G : Int) (N : Nat) (cs : List Rc) (C : Nat) (e : Value) (cs' : List Rc) : Prop :=
  (∃ p, p + C ≤ N ∧ runB F G cs p C = true ∧ (∀ q, q < p → runB F G cs q C = false) ∧ e = .tuple #[.int .i64 (F + p * G), .bool true] ∧ cs' = cs ++ [⟨F + p * G, C * G, true, true⟩]) ∨
  ((∀ q, q + C ≤ N → runB F G cs q C = false) ∧ e = .tuple #[.int .i64 0, .bool false] ∧ cs' = cs)

/-- How a call of Take ends. -/
def TookR (a : Nat) (F P G : Int) (v : Value) (pb : Nat) (ps : List Bool) (w : World) (T : Value → List Rc → Prop) (e : Ending) (w' : World) : Prop :=
  ∃ u cs' v', e = .returned u ∧ T u cs' ∧ IsRf w' a F P G v' cs' pb ps ∧ Frm (Rf a pb v) w w' ∧ (v'.ownBlock = v.ownBlock ∨ ∀ k, v'.ownBlock = some k → w.heap.size ≤ k)

theorem runB_succ (F G : Int) (cs : List Rc) (p k : Nat) : runB F G cs p (k + 1) = (runB F G cs p k && freeB F G cs ((p + k : Nat) : Int)) := by
  simp [runB, List.range_succ]

set_option maxHeartbeats 8000000 in
set_option maxRecDepth 100000 in
theorem refTake_large (a : Nat) (F P G n : Int) (v : Value) (cs : List Rc) (pb : Nat) (ps : List Bool) (w : World) (h : IsRf w a F P G v cs pb ps) (hn : ¬ n < 1) (n1 : n ≤ 9223372036854775807) (hl : G / 2 < roundI n) (hfew : cs.length ≤ 900000) :
    Calls Try.prog 11 #[spP a, .int .i64 n] w fun e w' => TookR a F P G v pb ps w (TakeL F G ps.length cs (pagesI G n).toNat) e w' := by
  obtain rfl := h.pl
  have HH := Lib.hid h
  have f0 := h.f0
  have f1 := h.f1
  have g0 := h.g0
  have g1 := h.g1
  have p1 := h.p1
  have rin := roundI_in n
  have hR := refRound_any n w
  have hPg := refPages_any G n w n1
  have pe := pagesI_enough (p := G) (n := n) g0 (by omega)
  obtain ⟨r, hr⟩ : ∃ r, roundI n = r := ⟨_, rfl⟩
  obtain ⟨C, hC⟩ : ∃ C : Nat, pagesI G n = C := ⟨(pagesI G n).toNat, by omega⟩
  rw [hr] at hR hl rin
  rw [hC] at hPg pe ⊢
  rw [Int.toNat_natCast]
  clear hr hC
  have HR := Lib.hid hR
  have HPg := Lib.hid hPg
  have hq : G.tdiv 2 = G / 2 := tdiv_of (by omega)
  obtain ⟨c0, c1, c2, c3, c4, cf⟩ := h.sp.five
  obtain ⟨ao, cap, rfl, _⟩ := h.lies
  clear hR hPg h
  have C1 : 0 < C := by omega
  have C2 : (C : Int) ≤ 9223372036854775807 := by omega
  clear pe
  unfold spP
  go_enter Try.func11, Try.ntmps11
  go_wp2_with fail
  refine HR.out.mono ?_
  rintro e w1 ⟨rfl, rfl⟩
  go_wp2_with fail
  refine HPg.out.mono ?_
  rintro e w1 ⟨rfl, rfl⟩
  go_wp2_with fail
  clear c0 c1 c2 c3 c4 cf
  go_loopw [8] (fun s8 wr => ∃ p : Nat, s8 = .int .i64 p ∧ (p = 0 ∨ p + C ≤ ps.length + 1) ∧ p ≤ ps.length ∧ Hid (∀ q, q < p → runB F G cs q C = false) ∧ Below w.heap.size w wr) (fun s8 _ => ps.length + 1 - (intOf s8).toNat)
  case atStart => exact ⟨0, rfl, Or.inl rfl, Nat.zero_le _, Lib.hid (fun q hq => by omega), Below.refl _ _⟩
  case round =>
    obtain ⟨p, rfl, hp, hpN, HQ, bb⟩ := hrel
    have hi := HH.out.keep bb
    obtain ⟨c0, c1, c2, c3, c4, cf⟩ := hi.sp.five
    by_cases fit : p + C ≤ ps.length
    · clear hi
      have fit2 : (p : Int) + (C : Int) ≤ (ps.length : Int) := by omega
      go_wp2_with fail
      clear c0 c1 c2 c3 c4 cf
      go_loopw [9, 10] (fun s9 s10 wr' => ∃ (k : Nat) (f : Bool), k ≤ C ∧ s10 = .int .i64 k ∧ s9 = .bool f ∧ Hid (f = runB F G cs p k) ∧ Below w.heap.size w wr') (fun _ s10 _ => C - (intOf s10).toNat)
      case atStart => exact ⟨0, true, Nat.zero_le _, rfl, rfl, Lib.hid rfl, bb⟩
      case round =>
        obtain ⟨k, f, hk, rfl, rfl, HF, b2⟩ := hrel
        have hi := HH.out.keep b2
        obtain ⟨c0, c1, c2, c3, c4, cf⟩ := hi.sp.five
        have RS := Lib.hid (runB_succ F G cs p k)
        by_cases klt : k < C
        · cases f
          · clear hi
            go_wp2
            go_roundw
            case rel => exact ⟨k + 1, false, by omega, by go_num, rfl, Lib.hid (by rw [RS.out, ← HF.out, Bool.false_and]), b2⟩
            case measure => simp [intOf]; omega
          · have hFr := free_any a F _ G ((p + k : Nat) : Int) _ cs pb ps _ hi
            rw [show ((p + k : Nat) : Int) = (p : Int) + (k : Int) from by omega] at hFr RS
            obtain ⟨fb, hfb⟩ : ∃ b, freeB F G cs ((p : Int) + (k : Int)) = b := ⟨_, rfl⟩
            rw [hfb] at hFr RS
            have HFr := Lib.hid hFr
            clear hFr hfb hi
            unfold spP at HFr
            go_wp2_with fail
            refine HFr.out.mono ?_
            rintro e w1 ⟨rfl, b3⟩
            go_wp2
            go_roundw
            case rel => exact ⟨k + 1, fb, by omega, by go_num, rfl, Lib.hid (by rw [RS.out, ← HF.out, Bool.true_and]), below_trans b2 b3⟩
            case measure => simp [intOf]; omega
        · obtain rfl : k = C := by omega
          cases f
          · have HQ2 := Lib.hid (show ∀ q, q < p + 1 → runB F G cs q k = false from fun q hq => by
              by_cases e : q = p
              · subst e; exact HF.out.symm
              · exact HQ.out q (by omega))
            clear hi
            go_wp2
            go_roundw
            case rel => exact ⟨p + 1, by go_num, Or.inr (by omega), by omega, HQ2, b2⟩
            case measure => simp [intOf]; omega
          · have pg0 : (0 : Int) ≤ (p : Int) * G := Int.mul_nonneg (by omega) (by omega)
            have pg1 : (p : Int) * G ≤ 64 * 256 := Int.mul_le_mul (by omega) (by omega) (by omega) (by omega)
            have cg0 : (1 : Int) * 1 ≤ (k : Int) * G := Int.mul_le_mul (by omega) (by omega) (by omega) (by omega)
            have cg1 : (k : Int) * G ≤ 64 * 256 := Int.mul_le_mul (by omega) (by omega) (by omega) (by omega)
            have HI := Lib.hid hi
            obtain ⟨i0, hi0, hz, hs, hb⟩ := info_parts info_cell
            have HI0 := Lib.hid (And.intro hi0 (And.intro hz (And.intro hs hb)))
            clear hi hi0 hz hs hb
            go_wp2_with fail
            go_quiet (fail)
            go_wp2_with fail
            have HU := Lib.hid (HI.out.drewN nq)
            have FU := Lib.hid ((Frm.of_below (S := Rf a pb (.slice ao cs.length cap)) b2).drewN nq)
            clear c0 c1 c2 c3 c4 cf HI bb b2 HPg HR
            generalize wr.drewN nq = U at HU FU ⊢
            obtain ⟨c0, c1, c2, c3, c4, cf⟩ := HU.out.sp.five
            have wk : IntKind.i64.wrap ((k : Int) * G) = (k : Int) * G := by rw [IntKind.wrap_i64]; omega
            have HW := Lib.hid (show IsRf (U.alloc (.cells #[.int .i64 (F + p * G), .int .i64 (k * G), .bool true, .bool true] 58)).drew a F ps.length G (.slice ao cs.length cap) cs pb ps from (HU.out.allocd _).drewN 1)
            have FW := Lib.hid ((FU.out.alloc (.cells #[.int .i64 (F + p * G), .int .i64 (k * G), .bool true, .bool true] 58)).drew)
            have NW := Lib.hid (show ∀ j u, (Rc.vs ⟨F + p * G, k * G, true, true⟩)[j]? = some u → (U.alloc (.cells #[.int .i64 (F + p * G), .int .i64 (k * G), .bool true, .bool true] 58)).drew.cell? ((⟨U.heap.size, 0, none⟩ : Addr).add j) = some u from cell_news U ⟨F + p * G, k * G, true, true⟩ 58)
            have LW := Lib.hid (show cs.length + 1 ≤ maxLen from by unfold maxLen; omega)
            have SW := Lib.hid (show (U.alloc (.cells #[.int .i64 (F + p * G), .int .i64 (k * G), .bool true, .bool true] 58)).drew.heap.size = U.heap.size + 1 from by simp)
            obtain ⟨y0, y1, y2, y3, y4, yf⟩ := (HU.out.allocd (.cells #[.int .i64 (F + p * G), .int .i64 (k * G), .bool true, .bool true] 58)).sp.five
            have US : w.heap.size ≤ U.heap.size := FU.out.size
            go_region_law (first
              | (refine step_append_lies _ (by rfl) _ _ _ (by rfl) 0 58 i0 _ 4 24 Try.underlying32 HI0.out.1 HI0.out.2.1 HI0.out.2.2.1 HI0.out.2.2.2 rfl (by omega) _ cs.length (rcV cs) (by rfl) HW.out.row ⟨U.heap.size, 0, none⟩ 1 1 (Rc.vs ⟨F + p * G, k * G, true, true⟩) (by rfl) (by rfl) NW.out (vs_one _) (by omega) LW.out (by omega) (Nat.zero_le _) (U.heap.size + 1) SW.out ?_
                 intro g' cap' w1 hown1 hgrow1 hat1 hlt1
                 obtain ⟨x3, xf⟩ := HW.out.grown hgrow1))
            all_goals
              have RR := Lib.hid (HW.out.app hgrow1 hown1 (show Sane ⟨F + p * G, k * G, true, true⟩ from ⟨by show 0 ≤ F + (p : Int) * G; omega, by show F + (p : Int) * G ≤ 2097152; omega, by show 1 ≤ (k : Int) * G; omega, by show (k : Int) * G ≤ 2097152; omega⟩) (by omega))
              have RF := Lib.hid ((FW.out.trans (grown_frm (a := a) (pb := pb) hgrow1) (fun _ _ h => h)).setCell (p := ⟨a, 3, none⟩) (fun _ => Or.inl rfl) (.slice (some ⟨g', 0, none⟩) (cs.length + 1) cap'))
              have RO := Lib.hid (show (Value.slice (some ⟨g', 0, none⟩) (cs.length + 1) cap').ownBlock = (Value.slice ao cs.length cap).ownBlock ∨ ∀ j, (Value.slice (some ⟨g', 0, none⟩) (cs.length + 1) cap').ownBlock = some j → w.heap.size ≤ j from by
                rcases hat1 with e | e
                · exact Or.inl e.symm
                · refine Or.inr fun j hj => ?_
                  have : g' = j := by simpa [Value.ownBlock] using hj
                  omega)
              clear hown1 hgrow1 hat1 hlt1 x3 xf
              go_wp2
              go_ret2
              exact ⟨_, _, _, rfl, Or.inl ⟨p, fit, HF.out.symm, HQ.out, rfl, rfl⟩, RR.out, RF.out, RO.out⟩
    · have hQ := Lib.hid (show ∀ q, q + C ≤ ps.length → runB F G cs q C = false from fun q hq => HQ.out q (by omega))
      have fit2 : ¬ (p : Int) + (C : Int) ≤ (ps.length : Int) := by omega
      have HI := Lib.hid hi
      clear hi
      go_wp2
      go_ret2
      exact ⟨_, cs, _, rfl, Or.inr ⟨hQ.out, rfl, rfl⟩, HI.out, Frm.of_below bb, Or.inl rfl⟩
end Go.Proofs.Ytinoeofimajpdaa
