/- Contracts of the document's Cut, New and Pend. -/
import Derived.Test.YtinoeofimajpdaaRefT
import Derived.Test.YtinoeofimajpdaaQTail
import Derived.Laws.MakeOwn
import Derived.OwnWalk
namespace Go.Proofs.Ytinoeofimajpdaa
open Go.RowKit

def cutI (n l m : Int) : Int := if n < l then l else if m < n then m else n

set_option maxHeartbeats 1000000 in
theorem cut_any (n l m : Int) (w : World) :
    Calls Try.prog 27 #[.int .i64 n, .int .i64 l, .int .i64 m] w fun e w' => e = .returned (.int .i64 (cutI n l m)) ∧ w = w' := by
  by_cases h0 : n < l
  · have E := Lib.hid (show cutI n l m = l from if_pos h0)
    go_enter Try.func27, Try.ntmps27
    go_wp2
    go_ret
    exact ⟨by rw [E.out]; rfl, rfl⟩
  · by_cases h1 : m < n
    · have E := Lib.hid (show cutI n l m = m from by rw [cutI, if_neg h0, if_pos h1])
      go_enter Try.func27, Try.ntmps27
      go_wp2
      go_ret
      exact ⟨by rw [E.out]; rfl, rfl⟩
    · have E := Lib.hid (show cutI n l m = n from by rw [cutI, if_neg h0, if_neg h1])
      go_enter Try.func27, Try.ntmps27
      go_wp2
      go_ret
      exact ⟨by rw [E.out]; rfl, rfl⟩

theorem cutI_in {n l m : Int} (h : l ≤ m) : l ≤ cutI n l m ∧ cutI n l m ≤ m := by unfold cutI; split <;> (try split) <;> omega

theorem madeB (n : Nat) : madeCells (Value.bool false).cells n = ((List.replicate n false).map Value.bool).toArray := by
  apply Array.ext
  · simp [madeCells]
  · intro i h1 h2
    simp [madeCells, Value.cells, Nat.mod_one]

theorem info_bool : (Try.prog.info? 4).map (fun i => (i.zero, i.size, i.bytes)) = some (some (.bool false), 1, 1) := by kernel_rfl

/-- Flags that are made. -/
theorem run_make_bool (n : Int) (h0 : 0 ≤ n) (h1 : n ≤ 1073741824) (w : World) :
    (Instr.makeSlice 33 (.int .i64 n) (.int .i64 n)).run Try.prog w = .ok (.slice (some ⟨w.heap.size, 0, none⟩) n.toNat n.toNat) (w.alloc (.cells ((List.replicate n.toNat false).map Value.bool).toArray 4)) := by
  obtain ⟨i, hi, hz, hs, hb⟩ := info_parts info_bool
  have h := run_make (P := Try.prog) w 33 4 i _ Try.underlying33 hi hz .i64 .i64 n n h0 (Int.le_refl _) (by rw [hb]; omega) (by omega)
  rw [hs, Nat.mul_one, madeB] at h
  exact h

set_option maxHeartbeats 1000000 in
theorem refNew_any (f p g : Int) (w : World) :
    Calls Try.prog 9 #[.int .i64 f, .int .i64 p, .int .i64 g] w fun e w' => e = .returned (spP w.heap.size) ∧
      IsRf w' w.heap.size (cutI f 0 1048576) (cutI p 0 64) (cutI g 1 256) (.slice none 0 0) [] (w.heap.size + 1) (List.replicate (cutI p 0 64).toNat false) ∧ Below w.heap.size w w' := by
  have hF := cut_any f 0 1048576 w
  have hP := cut_any p 0 64 w
  have hG := cut_any g 1 256 w
  have iF := cutI_in (n := f) (l := 0) (m := 1048576) (by omega)
  have iP := cutI_in (n := p) (l := 0) (m := 64) (by omega)
  have iG := cutI_in (n := g) (l := 1) (m := 256) (by omega)
  obtain ⟨F, eF⟩ : ∃ F, cutI f 0 1048576 = F := ⟨_, rfl⟩
  obtain ⟨P, eP⟩ : ∃ P, cutI p 0 64 = P := ⟨_, rfl⟩
  obtain ⟨G, eG⟩ : ∃ G, cutI g 1 256 = G := ⟨_, rfl⟩
  rw [eF] at hF iF ⊢
  rw [eP] at hP iP ⊢
  rw [eG] at hG iG ⊢
  clear eF eP eG
  have hmk := run_make_bool P (by omega) (by omega)
  have HF := Lib.hid hF
  have HP := Lib.hid hP
  have HG := Lib.hid hG
  clear hF hP hG
  go_enter Try.func9, Try.ntmps9
  go_wp2_with fail
  refine HF.out.mono ?_
  rintro e w1 ⟨rfl, rfl⟩
  go_wp2_with fail
  refine HP.out.mono ?_
  rintro e w1 ⟨rfl, rfl⟩
  go_wp2_with fail
  refine HG.out.mono ?_
  rintro e w1 ⟨rfl, rfl⟩
  go_wp2
  go_ret
  refine ⟨rfl, ⟨?_, World.ownsRow_nil _ _ _ _, ?_, iF.1, iF.2, iG.1, iG.2, ?_, ?_, fun c hc => by simp at hc, by simp⟩, ((Below.refl _ _).alloc (Nat.le_refl _) _).alloc (by simp) _⟩
  · rw [List.length_replicate]
    exact (Blk.new w _ _).alloc _
  · have h := Blk.new (w.alloc (.cells #[.int .i64 F, .int .i64 P, .int .i64 G, .slice none 0 0, .slice (some ⟨w.heap.size + 1, 0, none⟩) P.toNat P.toNat] 35)) (Array.replicate P.toNat (Value.bool false)) 4
    simpa using h
  · rw [List.length_replicate]; omega
  · rw [List.length_replicate]; omega

/-- Does a cell begin in page n? -/
def hasB (F G : Int) (cs : List Rc) (n : Int) : Bool := cs.any fun c => decide (ofI F G c.pos = n)

theorem hasB_snoc (F G : Int) (cs : List Rc) (c : Rc) (n : Int) : hasB F G (cs ++ [c]) n = (hasB F G cs n || decide (ofI F G c.pos = n)) := by
  simp [hasB]

theorem Blk.bools {w : World} {b : Nat} {t : TypeId} {ps : List Bool} (h : Blk w b (ps.map Value.bool).toArray t) {i : Nat} {x : Bool} (hx : ps[i]? = some x) : w.cell? ⟨b, i, none⟩ = some (.bool x) := by
  rw [h.cell]; simp [hx]

theorem Blk.setBool {w : World} {b : Nat} {t : TypeId} {ps : List Bool} (h : Blk w b (ps.map Value.bool).toArray t) (i : Nat) (x : Bool) : Blk (w.setCell ⟨b, i, none⟩ (.bool x)) b ((ps.set i x).map Value.bool).toArray t := by
  have := h.set_ i (.bool x)
  have e : (ps.map Value.bool).toArray.setIfInBounds i (.bool x) = ((ps.set i x).map Value.bool).toArray := by
    apply Array.ext'
    simp
  rw [← e]
  exact this

/-- A flag of a page is set. -/
theorem IsRf.setPend {w : World} {a : Nat} {F P G : Int} {v : Value} {cs : List Rc} {pb : Nat} {ps : List Bool} (h : IsRf w a F P G v cs pb ps) (i : Nat) (x : Bool) :
    IsRf (w.setCell ⟨pb, i, none⟩ (.bool x)) a F P G v cs pb (ps.set i x) := by
  have hne : a ≠ pb := Blk.ne_ h.sp h.pend (by decide)
  refine { h with sp := ?_, row := ?_, pend := h.pend.setBool i x, p1 := by simpa using h.p1, pl := by simpa using h.pl }
  · rw [List.length_set]
    exact h.sp.far hne _
  · refine ⟨h.row.1, h.row.2.imp id ?_⟩
    rintro ⟨g, cap, cur, e1, e2, e3, e4⟩
    have hg : Blk w g cur 58 := e3
    exact ⟨g, cap, cur, e1, e2, hg.far (p := ⟨pb, i, none⟩) (Blk.ne_ hg h.pend (by decide)) _, e4⟩

theorem IsRf.drewN {w : World} {a : Nat} {F P G : Int} {v : Value} {cs : List Rc} {pb : Nat} {ps : List Bool} (h : IsRf w a F P G v cs pb ps) (m : Nat) : IsRf (w.drewN m) a F P G v cs pb ps := h.keep (below_drewN w m)

theorem Frm.drewN {S : Nat → Prop} {a w : World} (h : Frm S a w) (m : Nat) : Frm S a (w.drewN m) := ⟨h.os, h.tape, h.output, h.size, h.block⟩

theorem IsRf.reads {w : World} {a : Nat} {F P G : Int} {cs : List Rc} {pb g cap : Nat} {ps : List Bool} (h : IsRf w a F P G (.slice (some ⟨g, 0, none⟩) cs.length cap) cs pb ps) {N n i : Nat} {x : Bool} {c : Rc} (hN : ps.length = N) (hn : ps[n]? = some x) (hi : cs[i]? = some c) :
    w.cell? ⟨a, 3, none⟩ = some (.slice (some ⟨g, 0, none⟩) cs.length cap) ∧ w.cell? ⟨a, 4, none⟩ = some (.slice (some ⟨pb, 0, none⟩) N N) ∧ w.cell? ⟨pb, n, none⟩ = some (.bool x) ∧ w.cell? ⟨g, i * 4, none⟩ = some (.int .i64 c.pos) := by
  obtain ⟨ao, cap', e, hl⟩ := h.lies
  cases e
  obtain ⟨g', e, _, d0, _⟩ := hl i c hi
  cases e
  subst hN
  exact ⟨h.sp.five.2.2.2.1, h.sp.five.2.2.2.2.1, h.pend.bools hn, d0⟩

set_option maxHeartbeats 4000000 in
theorem refPend_any (a : Nat) (F P G : Int) (v : Value) (cs : List Rc) (pb : Nat) (ps : List Bool) (w : World) (h : IsRf w a F P G v cs pb ps) :
    Calls Try.prog 15 #[spP a] w fun e w' => e = .returned (.tuple #[]) ∧ IsRf w' a F P G v cs pb ((List.range ps.length).map fun k : Nat => hasB F G cs (k : Int)) ∧ Frm (· = pb) w w' := by
  have few := h.few
  have p1 := h.p1
  have pl := h.pl
  have HH := Lib.hid h
  obtain ⟨ao, cap, rfl, _⟩ := h.lies
  clear h
  unfold spP
  go_enter Try.func15, Try.ntmps15
  go_wp2_with fail
  go_loopw [2] (fun s wr => ∃ (n : Nat) (qs : List Bool), n ≤ ps.length ∧ s = .int .i64 n ∧ qs.length = ps.length ∧ IsRf wr a F P G (.slice ao cs.length cap) cs pb qs ∧ Hid (∀ k, k < n → qs[k]? = some (hasB F G cs k)) ∧ Frm (· = pb) w wr) (fun s _ => ps.length - (intOf s).toNat)
  case atStart => exact ⟨0, ps, Nat.zero_le _, rfl, rfl, HH.out, Lib.hid (fun k hk => by omega), Frm.refl _ _⟩
  case round =>
    obtain ⟨n, qs, hn, rfl, ql, hi, HQ, fr⟩ := hrel
    obtain ⟨c0, c1, c2, c3, c4, cf⟩ := hi.sp.five
    by_cases hlt : n < ps.length
    · obtain ⟨x, hx⟩ : ∃ x, qs[n]? = some x := ⟨_, List.getElem?_eq_getElem (by omega)⟩
      have d := hi.pend.bools hx
      have df := hi.pend.frozen n
      rw [ql] at c4
      have HI := Lib.hid hi
      have FR := Lib.hid fr
      clear hi fr hx
      go_wp2_with fail
      have hs := HI.out.setPend n false
      have fs := FR.out.setCell (p := ⟨pb, n, none⟩) (fun _ => rfl) (.bool false)
      have HS := Lib.hid hs
      have FS := Lib.hid fs
      clear hs fs HI FR c0 c1 c2 c3 c4 cf d df
      go_loopw [3] (fun s wr' => ∃ (i : Nat) (f : Bool), i ≤ cs.length ∧ s = .int .i64 i ∧ IsRf wr' a F P G (.slice ao cs.length cap) cs pb (qs.set n f) ∧ Hid (f = hasB F G (cs.take i) n) ∧ Frm (· = pb) w wr') (fun s _ => cs.length - (intOf s).toNat)
      case atStart => exact ⟨0, false, Nat.zero_le _, rfl, HS.out, Lib.hid (by simp [hasB]), FS.out⟩
      case round =>
        clear HS FS
        obtain ⟨i, f, hin, rfl, hi, HF, fr⟩ := hrel
        obtain ⟨c0, c1, c2, c3, c4, cf⟩ := hi.sp.five
        rw [List.length_set, ql] at c4
        have d := hi.pend.bools (i := n) (x := f) (by rw [List.getElem?_set_self (by omega)])
        have df := hi.pend.frozen n
        by_cases ilt : i < cs.length
        · obtain ⟨c, hc⟩ : ∃ c, cs[i]? = some c := ⟨_, List.getElem?_eq_getElem ilt⟩
          obtain ⟨ao', cap', e, hl⟩ := hi.lies
          cases e
          obtain ⟨g, rfl, glt, d0, d1, d2, d3, dg⟩ := hl i c hc
          obtain ⟨s0, s1, s2, s3⟩ := hi.sane c (List.mem_of_getElem? hc)
          have o1 := of_any a F P G c.pos _ _ _ hi.sp hi.f0 hi.f1 hi.g0 (by omega) (by omega)
          have HN := Lib.hid (show hasB F G (cs.take (i + 1)) n = (hasB F G (cs.take i) n || decide (ofI F G c.pos = n)) from by rw [take_snoc hc, hasB_snoc])
          have HC := Lib.hid hc
          clear hl hc d1 d2 d3
          have O1 := Lib.hid (fun (u : World) (hu : Blk u a #[.int .i64 F, .int .i64 P, .int .i64 G, .slice (some ⟨g, 0, none⟩) cs.length cap, .slice (some ⟨pb, 0, none⟩) (qs.set n f).length (qs.set n f).length] 35) => of_any a F P G c.pos _ _ u hu hi.f0 hi.f1 hi.g0 (by omega) (by omega))
          clear o1
          have nlt : (n : Int) < (ps.length : Int) := by omega
          have n0 : (0 : Int) ≤ (n : Int) := by omega
          have ilt2 : (i : Int) < (cs.length : Int) := by omega
          have i0 : (0 : Int) ≤ (i : Int) := by omega
          have HI := Lib.hid hi
          have FR := Lib.hid fr
          clear hi fr
          cases f
          · have HN1 := Lib.hid (show (ofI F G c.pos == (n : Int)) = hasB F G (cs.take (i + 1)) n from by rw [HN.out, ← HF.out, Bool.false_or]; rfl)
            clear HN
            have K0 := Lib.hid (fun m => O1.out (wr.drewN m) (HI.out.drewN m).sp)
            go_wp2_with fail
            clear c0 c1 c2
            refine region_quiet_tail 27 (by kernel_rfl) (by kernel_rfl) ?_
            simp only [List.take_succ_cons, List.take_zero, List.drop_succ_cons, List.drop_zero]
            repeat (go_big_quiet_step ((go_at_call 36; refine Calls.quiet_of (K0.out _))))
            refine wpQuiet_nil ?_
            rintro _ ⟨m, rfl⟩
            go_wp2
            go_roundw
            case rel => exact ⟨i + 1, ofI F G c.pos == (n : Int), by omega, by go_num, by
              have h := (HI.out.drewN m).setPend n (ofI F G c.pos == (n : Int))
              rw [List.set_set] at h
              exact h, HN1, (FR.out.drewN m).setCell (p := ⟨pb, n, none⟩) (fun _ => rfl) _⟩
            case measure => simp [intOf]; omega
          · have HN1 := Lib.hid (show true = hasB F G (cs.take (i + 1)) n from by rw [HN.out, ← HF.out, Bool.true_or])
            clear HN
            go_wp2_with fail
            clear c0 c1 c2
            refine region_quiet_tail 27 (by kernel_rfl) (by kernel_rfl) ?_
            simp only [List.take_succ_cons, List.take_zero, List.drop_succ_cons, List.drop_zero]
            repeat (go_big_quiet_step (fail))
            refine wpQuiet_nil ?_
            rintro _ ⟨m, rfl⟩
            go_wp2
            go_roundw
            case rel => exact ⟨i + 1, true, by omega, by go_num, by
              have h := (HI.out.drewN m).setPend n true
              rw [List.set_set] at h
              exact h, HN1, (FR.out.drewN m).setCell (p := ⟨pb, n, none⟩) (fun _ => rfl) _⟩
            case measure => simp [intOf]; omega
        · obtain rfl : i = cs.length := by omega
          have HQ2 := Lib.hid (show ∀ k, k < n + 1 → (qs.set n f)[k]? = some (hasB F G cs (k : Int)) from fun k hk => by
            by_cases e : k = n
            · subst e
              rw [List.getElem?_set_self (by omega), HF.out, List.take_length]
            · rw [List.getElem?_set_ne (by omega)]
              exact HQ.out k (by omega))
          have HI := Lib.hid hi
          have FR := Lib.hid fr
          clear hi fr
          go_wp2
          go_roundw
          case rel => exact ⟨n + 1, qs.set n f, by omega, by go_num, by rw [List.length_set]; exact ql, HI.out, HQ2, FR.out⟩
          case measure => simp [intOf]; omega
    · obtain rfl : n = ps.length := by omega
      have E := Lib.hid (show qs = (List.range ps.length).map fun k : Nat => hasB F G cs (k : Int) from by
        apply List.ext_getElem?
        intro k
        by_cases hk : k < ps.length
        · rw [HQ.out k hk]; simp [hk]
        · rw [List.getElem?_eq_none (by omega)]; simp [hk])
      have HI := Lib.hid hi
      have FR := Lib.hid fr
      clear hi fr
      go_wp2
      go_end0
      exact ⟨rfl, by rw [← E.out]; exact HI.out, FR.out⟩
end Go.Proofs.Ytinoeofimajpdaa
