
/- Contracts of the document's graph: has, wrong, New. -/
import Derived.Test.YtjjjeeffllelaaaRgA
import Derived.Test.YtjjjeeffllelaaaCutI
import Derived.Deep.DeepCutAuto
import Derived.Deep.CutBlock
namespace Go.Proofs.Ytjjjeeffllelaaa
open Go.RowKit

section
variable {w : World} {g : Nat} {S : Nat → Prop} {G : Gr}

/-- A handle that there is, and what it holds. -/
theorem Rg.at_ (h : Rg w g S G) {a : Int} (ha : G.has a = true) : ∃ (i : Nat) (x : Int), a = i ∧ i < G.hs.length ∧ G.hs[i]? = some x ∧ G.held a = x ∧ 0 ≤ x ∧ x ≤ G.ns.length := by
  obtain ⟨vN, hA, hc, nd, hi, e, rfl⟩ := h
  unfold Gr.has at ha
  simp at ha
  obtain ⟨i, rfl⟩ : ∃ i : Nat, a = i := ⟨a.toNat, by omega⟩
  have hl : i < G.hs.length := by omega
  have hx := List.getElem?_eq_getElem hl
  have hin := hi.hin _ (List.mem_of_getElem? hx)
  refine ⟨i, _, rfl, hl, hx, ?_, hin.1, ?_⟩
  · unfold Gr.held
    rw [Int.toNat_natCast, List.getD_eq_getElem?_getD, hx]; rfl
  · rw [e, List.length_map]; exact hin.2
end

set_option maxHeartbeats 1000000 in
theorem rgHas_any (w : World) (g : Nat) (S : Nat → Prop) (G : Gr) (h : Int) (r : Rg w g S G) :
    Calls Try.prog 32 #[.pointer (some ⟨g, 0, none⟩), .int .i64 h] w fun e w' => e = .returned (.bool (G.has h)) ∧ w = w' := by
  obtain ⟨vN, hA, hc, nd, hi, _, _⟩ := r
  have c1 : w.cell? ⟨g, 1, none⟩ = some (.slice hA G.hs.length hc) := hi.blk.cell 1
  clear hi
  unfold Gr.has
  generalize G.hs.length = n at c1 ⊢
  by_cases h0 : 0 ≤ h
  · have d0 : decide (0 ≤ h) = true := decide_eq_true h0
    go_enter Try.func32, Try.ntmps32
    go_wp2
    all_goals
      go_ret
      exact ⟨by first | rfl | exact ret_bool (by simp [h0]) | exact ret_bool (by simp; omega), rfl⟩
  · have d0 : decide (0 ≤ h) = false := decide_eq_false h0
    go_enter Try.func32, Try.ntmps32
    go_wp2
    all_goals
      go_ret
      exact ⟨by first | rfl | exact ret_bool (by simp [h0]) | exact ret_bool (by simp; omega), rfl⟩

set_option maxHeartbeats 1000000 in
theorem rgWrong_any (w : World) (g : Nat) (S : Nat → Prop) (G : Gr) (h : Int) (r : Rg w g S G) :
    Calls Try.prog 31 #[.pointer (some ⟨g, 0, none⟩), .int .i64 h] w fun e w' => e = .returned (.int .i64 (G.wrong h)) ∧ w = w' := by
  have HH := Lib.hid (rgHas_any w g S G h r)
  cases hb : G.has h
  · have HW := Lib.hid (show G.wrong h = 3 from by simp [Gr.wrong, hb])
    rw [hb] at HH
    clear r hb
    go_enter Try.func31, Try.ntmps31
    go_wp2_with fail
    refine HH.out.mono ?_
    rintro e w1 ⟨rfl, rfl⟩
    go_wp2
    go_ret
    exact ⟨ret_int HW.out.symm, rfl⟩
  · obtain ⟨i, x, rfl, hl, hx, hv, x0, x1⟩ := r.at_ hb
    have HW := Lib.hid (show G.wrong i = if x = 0 then 4 else 0 from by simp [Gr.wrong, hb, hv])
    obtain ⟨vN, hA, hc, nd, hi, _, _⟩ := r
    have c1 : w.cell? ⟨g, 1, none⟩ = some (.slice hA G.hs.length hc) := hi.blk.cell 1
    obtain ⟨q, off, rfl, _, hcx, _⟩ := hi.hrow.at_ (by omega)
    have cx := hcx i x hx
    have hf := hi.hfew
    rw [hb] at HH
    clear hi hcx hv hx hb
    generalize G.hs.length = n at c1 hl hf ⊢
    by_cases z : x = 0
    · subst z
      rw [if_pos rfl] at HW
      go_enter Try.func31, Try.ntmps31
      go_wp2_with fail
      refine HH.out.mono ?_
      rintro e w1 ⟨rfl, rfl⟩
      go_wp2
      go_ret
      exact ⟨ret_int HW.out.symm, rfl⟩
    · rw [if_neg z] at HW
      go_enter Try.func31, Try.ntmps31
      go_wp2_with fail
      refine HH.out.mono ?_
      rintro e w1 ⟨rfl, rfl⟩
      go_wp2
      go_ret
      exact ⟨ret_int HW.out.symm, rfl⟩

theorem info_node : (Try.prog.info? 45).map (fun i => (i.zero, i.size, i.bytes)) = some (some (.agg #[.slice none 0 0, .slice none 0 0]), 2, 48) := by kernel_rfl

theorem run_make_node (w : World) :
    (Instr.makeSlice 35 (.int .i64 1) (.int .i64 1)).run Try.prog w = .ok (.slice (some ⟨w.heap.size, 0, none⟩) 1 1) (w.alloc (.cells #[.slice none 0 0, .slice none 0 0] 45)) := by
  obtain ⟨i, hi, hz, hs, hb⟩ := info_parts info_node
  have h := run_make (P := Try.prog) w 35 45 i _ Try.underlying35 hi hz .i64 .i64 1 1 (by decide) (Int.le_refl _) (by rw [hb]; decide) (by decide)
  rw [hs] at h
  have e : madeCells (Value.agg #[.slice none 0 0, .slice none 0 0]).cells (Int.toNat 1 * 2) = #[.slice none 0 0, .slice none 0 0] := by
    apply Array.ext
    · simp [madeCells]
    · intro i h1 h2
      have hi : i < 2 := by simpa using h2
      match i, hi with
      | 0, _ => simp [madeCells, Value.cells]
      | 1, _ => simp [madeCells, Value.cells]
  rw [e] at h
  exact h

/-- How many handles there are. -/
def nhI (h : Int) : Nat := (min (max h 0) 64).toNat

/-- A graph that was just made. -/
def Gr.new (h l : Int) : Gr := ⟨[], List.replicate (nhI h) 0, cutI l 0 64⟩

theorem rep_snoc (i : Nat) : List.replicate i (0 : Int) ++ [0] = List.replicate (i + 1) 0 := by
  rw [List.replicate_succ']

theorem IsG.setHs {w : World} {g : Nat} {vN : Value} {hA hA' : Option Addr} {hc hc' : Nat} {nd : List Nd} {hs hs' : List Int} {lg : Int} (h : IsG w g vN hA hc nd hs lg) {w' : World} (gr : Grw hA hA' w w') (q : Qu w' hA' hs'.length hc' hs')
    (hin : ∀ x ∈ hs', 0 ≤ x ∧ x ≤ nd.length) (hf : hs'.length ≤ 64) :
    IsG (w'.setCell ⟨g, 1, none⟩ (.slice hA' hs'.length hc')) g vN hA' hc' nd hs' lg ∧ Mv (gOwn g vN hA nd) (gOwn g vN hA' nd) w (w'.setCell ⟨g, 1, none⟩ (.slice hA' hs'.length hc')) := by
  have no : ∀ {k : Nat} {cs : Array Value} {ty : TypeId}, Blk w k cs ty → ty ≠ 3 → blkOf hA ≠ some k := by
    intro k cs ty hk n1 e
    rcases h.hrow.lies with ⟨rfl, _⟩ | ⟨g', off, cs', rfl, hb', _⟩
    · cases e
    · cases e
      exact Blk.ne_ hk hb' n1 rfl
  have kb := h.blk.frm gr.frm (no h.blk (by decide))
  have fs : Frm (fun k => k = g) w' (w'.setCell ⟨g, 1, none⟩ (.slice hA' hs'.length hc')) := Frm.setCell (S := fun k => k = g) (Frm.refl _ _) (p := ⟨g, 1, none⟩) (fun _ => rfl) _
  have gq : ∀ k, blkOf hA' = some k → k ≠ g := by
    rintro k e rfl
    rcases q.lies with ⟨rfl, _⟩ | ⟨g', off, cs', rfl, hb', _⟩
    · cases e
    · cases e
      exact Blk.ne_ kb hb' (by decide) rfl
  obtain ⟨nb, nc, cur, en, hnb, _⟩ := h.row
  have nr : w'.ownsRow 0 45 2 vN (nd.length + 1) (ndV nd) := ownsRow_frm h.nrow gr.frm (by
    intro j e; rw [en] at e; cases e; exact no hnb (by decide))
  have hap' : ∀ x ∈ nd, blkOf hA' ≠ some x.pb := by
    intro x hx e
    rcases gr.at_ _ e with e1 | e1
    · exact h.hap x hx e1
    · have := (h.ptr x hx).lt; omega
  refine ⟨{ blk := kb.set_ 1 _, hrow := q.frm fs gq, nrow := ownsRow_frm nr fs ?_, ptr := ?_, sca := ?_, hap := hap', nap := h.nap, hin := hin, pin := h.pin, few := h.few, hfew := hf, lg0 := h.lg0, lg1 := h.lg1, size := h.size }, ?_, ?_⟩
  · intro j e; rw [en] at e; cases e
    exact fun e => Blk.ne_ (hnb.frm gr.frm (no hnb (by decide))) kb (by decide) e
  · intro x hx
    have k1 := (h.ptr x hx).frm gr.frm (h.hap x hx)
    exact k1.frm fs fun e => Blk.ne_ k1 kb (by decide) e
  · intro x hx
    have k1 := (h.sca x hx).frm gr.frm (no (h.sca x hx) (by decide))
    exact k1.frm fs fun e => Blk.ne_ k1 kb (by decide) e
  · refine Frm.setCell (p := ⟨g, 1, none⟩) (gr.frm.mono fun i _ e => .inr (.inr (.inl e))) (fun _ => .inl rfl) _
  · rintro k (rfl | e | e | e)
    · exact .inl (.inl rfl)
    · exact .inl (.inr (.inl e))
    · rcases gr.at_ k e with e | e
      · exact .inl (.inr (.inr (.inl e)))
      · exact .inr e
    · exact .inl (.inr (.inr (.inr e)))

theorem IsG.four {w : World} {g : Nat} {vN : Value} {hA : Option Addr} {hc : Nat} {nd : List Nd} {hs : List Int} {lg : Int} (h : IsG w g vN hA hc nd hs lg) :
    w.cell? ⟨g, 0, none⟩ = some vN ∧ w.cell? ⟨g, 1, none⟩ = some (.slice hA hs.length hc) ∧ w.cell? ⟨g, 2, none⟩ = some (.int .i64 lg) ∧ ∀ i, w.frozen? ⟨g, i, none⟩ = false := ⟨h.blk.cell 0, h.blk.cell 1, h.blk.cell 2, h.blk.frozen⟩

/-- Where New stands behind i handles. -/
def NewR (w : World) (g : Nat) (L : Int) (i : Nat) (w' : World) : Prop := ∃ nb hA hc, IsG w' g (.slice (some ⟨nb, 0, none⟩) 1 1) hA hc [] (List.replicate i 0) L ∧ (∀ k, gOwn g (.slice (some ⟨nb, 0, none⟩) 1 1) hA [] k → w.heap.size ≤ k) ∧ Below w.heap.size w w'

theorem newR_start (w : World) (L : Int) (h0 : 0 ≤ L) (h1 : L ≤ 64) (w' : World) (g : Nat)
    (hb : Blk w' g #[.slice (some ⟨w.heap.size, 0, none⟩) 1 1, .slice none 0 0, .int .i64 L] 53) (hn : Blk w' w.heap.size #[.slice none 0 0, .slice none 0 0] 45) (gw : w.heap.size ≤ g) (bel : Below w.heap.size w w') : NewR w g L 0 w' := by
  refine ⟨w.heap.size, none, 0, ⟨hb, Qu.nil _, ⟨rfl, .inr ⟨w.heap.size, 1, _, rfl, Nat.zero_le _, hn, Nat.le_refl _, by decide, rfl, rfl⟩⟩, by simp, by simp, by simp, .nil, by simp, by simp, by simp, by simp, h0, h1, by simp⟩, ?_, bel⟩
  rintro k (rfl | e | e | ⟨x, hx, _⟩)
  · exact gw
  · cases e; exact Nat.le_refl _
  · cases e
  · cases hx

theorem newR_first (w : World) (L : Int) (h0 : 0 ≤ L) (h1 : L ≤ 64) :
    NewR w (w.heap.size + 1) L 0 ((w.alloc (.cells #[.slice none 0 0, .slice none 0 0] 45)).alloc (.cells #[.slice (some ⟨w.heap.size, 0, none⟩) 1 1, .slice none 0 0, .int .i64 L] 53)) := by
  have b1 := Blk.new (w.alloc (.cells #[.slice none 0 0, .slice none 0 0] 45)) #[.slice (some ⟨w.heap.size, 0, none⟩) 1 1, .slice none 0 0, .int .i64 L] 53
  rw [show (w.alloc (.cells #[.slice none 0 0, .slice none 0 0] 45)).heap.size = w.heap.size + 1 by simp] at b1
  exact newR_start w L h0 h1 _ _ b1 ((Blk.new w _ _).alloc _) (by omega) (((Below.refl _ _).alloc (Nat.le_refl _) _).alloc (by simp) _)

/-- One more handle. -/
theorem NewR.more {w w1 w2 : World} {g : Nat} {L : Int} {i hc hc' nb : Nat} {hA hA' : Option Addr} (h : IsG w1 g (.slice (some ⟨nb, 0, none⟩) 1 1) hA hc [] (List.replicate i 0) L) (low : ∀ k, gOwn g (.slice (some ⟨nb, 0, none⟩) 1 1) hA [] k → w.heap.size ≤ k)
    (bel : Below w.heap.size w w1) (gr : Grw hA hA' w1 w2) (q : Qu w2 hA' (i + 1) hc' (List.replicate i 0 ++ [0])) (hi : i < 64) : NewR w g L (i + 1) (w2.setCell ⟨g, 1, none⟩ (.slice hA' (i + 1) hc')) := by
  rw [rep_snoc] at q
  have hl : (List.replicate (i + 1) (0 : Int)).length = i + 1 := List.length_replicate
  have q' : Qu w2 hA' (List.replicate (i + 1) (0 : Int)).length hc' (List.replicate (i + 1) 0) := by rw [hl]; exact q
  obtain ⟨h1, mv⟩ := h.setHs gr q' (fun x hx => by rw [List.eq_of_mem_replicate hx]; simp) (by rw [hl]; omega)
  rw [hl] at h1 mv
  refine ⟨nb, hA', hc', h1, fun k hk => ?_, Below.frm bel mv.frm bel.size fun k hk e => ?_⟩
  · rcases mv.at_ k hk with e | e
    · exact low k e
    · exact Nat.le_trans bel.size e
  · have := low k e; omega

set_option maxHeartbeats 4000000 in
theorem rgNew_any (hn l : Int) (w : World) :
    Calls Try.prog 10 #[.int .i64 hn, .int .i64 l] w fun e w' => ∃ g, e = .returned (.pointer (some ⟨g, 0, none⟩)) ∧ ∃ S, Rg w' g S (Gr.new hn l) ∧ Below w.heap.size w w' ∧ ∀ k, S k → w.heap.size ≤ k := by
  have hmk := run_make_node
  obtain ⟨n, hnn⟩ : ∃ n, nhI hn = n := ⟨_, rfl⟩
  have n1 : (n : Int) = min (max hn 0) 64 := by rw [← hnn]; unfold nhI; omega
  obtain ⟨L, hL⟩ : ∃ L, cutI l 0 64 = L := ⟨_, rfl⟩
  have L0 : 0 ≤ L := by rw [← hL]; exact (cutI_in (by decide)).1
  have L1 : L ≤ 64 := by rw [← hL]; exact (cutI_in (by decide)).2
  have eG : Gr.new hn l = ⟨[], List.replicate n 0, L⟩ := by unfold Gr.new; rw [hnn, hL]
  rw [eG]
  have HZ := Lib.hid (newR_first w L L0 L1)
  have hN := Lib.hid n1
  clear hnn eG n1
  have hs : (l < 0 ∧ L = 0) ∨ (64 < l ∧ L = 64) ∨ (0 ≤ l ∧ l ≤ 64 ∧ L = l) := by
    rw [← hL]; unfold cutI
    by_cases h0 : l < 0
    · exact .inl ⟨h0, if_pos h0⟩
    · by_cases h1 : 64 < l
      · exact .inr (.inl ⟨h1, by rw [if_neg h0, if_pos h1]⟩)
      · exact .inr (.inr ⟨by omega, by omega, by rw [if_neg h0, if_neg h1]⟩)
  clear hL
  rcases hs with ⟨h0, rfl⟩ | ⟨h0, rfl⟩ | ⟨h0, h1, rfl⟩
  all_goals
    go_enter Try.func10, Try.ntmps10
    go_wp2_with fail
    clear hmk
    go_loopw [6] (fun s wr => ∃ i : Nat, i ≤ n ∧ s = .int .i64 i ∧ Hid (NewR w (w.heap.size + 1) _ i wr)) (fun s _ => n - (intOf s).toNat)
    case atStart => exact ⟨0, Nat.zero_le _, rfl, HZ⟩
    case round =>
      clear HZ
      obtain ⟨i, hi, rfl, HR⟩ := hrel
      generalize w.heap.size + 1 = g at *
      by_cases hlt : i < n
      · have i1 : (i : Int) < hn := by have := hN.out; omega
        have i2 : (i : Int) < 64 := by have := hN.out; omega
        obtain ⟨nb, hA, hc, hg, low, bel⟩ := HR.out
        obtain ⟨c0, c1, c2, cf⟩ := hg.four
        rw [List.length_replicate] at c1
        have hl := hg.blk.lt
        have al : Below wr.heap.size wr (wr.alloc (.cells #[.int .i64 0] 3)) := (Below.refl _ _).alloc (Nat.le_refl _) _
        have H2 := Lib.hid (And.intro (hg.keep al) (And.intro low (below_trans bel al)))
        have Q2 := Lib.hid (show Qu (wr.alloc (.cells #[.int .i64 0] 3)) hA i hc (List.replicate i 0) from by have := (hg.keep al).hrow; rwa [List.length_replicate] at this)
        have E2 := Lib.hid (show (wr.alloc (.cells #[.int .i64 0] 3)).cell? ⟨wr.heap.size, 0, none⟩ = some (.int .i64 0) from (Blk.new wr #[.int .i64 0] 3).cell 0)
        clear hg low bel c0 c2 al HR
        go_wp2_with (first
          | (at_builtin; (refine wpList_append_qu _ rfl _ _ rfl Q2.out (by omega) 0 ⟨wr.heap.size, 0, none⟩ 1 rfl rfl E2.out ?_))
          | fail)
        intro A' c' w2 q gr
        have kb := H2.out.1.blk.frm gr.frm (fun e => by
          rcases H2.out.1.hrow.lies with ⟨rfl, _⟩ | ⟨g', off, cs', rfl, hb', _⟩
          · cases e
          · cases e
            exact Blk.ne_ H2.out.1.blk hb' (by decide) rfl)
        have cf2 : w2.frozen? ⟨g, 1, none⟩ = false := kb.frozen 1
        have ex2 : w2.cell? ⟨g, 1, none⟩ = some (.slice hA (List.replicate i (0 : Int)).length hc) := kb.cell 1
        have HN := Lib.hid (NewR.more H2.out.1 H2.out.2.1 H2.out.2.2 gr q (by omega))
        clear kb q gr H2 Q2 E2 c1 cf
        go_wp2
        go_roundw
        case rel => exact ⟨i + 1, by omega, by go_num, HN⟩
        case measure => simp [intOf]; omega
      · obtain rfl : n = i := by omega
        have HE := Lib.hid (show ∃ S, Rg wr g S ⟨[], List.replicate n 0, _⟩ ∧ Below w.heap.size w wr ∧ ∀ k, S k → w.heap.size ≤ k from by
          obtain ⟨nb, hA, hc, hg, low, bel⟩ := HR.out
          exact ⟨_, ⟨_, _, _, [], hg, rfl, rfl⟩, bel, low⟩)
        have hs : ¬ ((n : Int) < hn ∧ (n : Int) < 64) := by have := hN.out; omega
        clear HR
        by_cases i1 : (n : Int) < hn
        · have i2 : ¬ (n : Int) < 64 := fun e => hs ⟨i1, e⟩
          go_wp2
          go_ret
          exact ⟨_, rfl, HE.out⟩
        · go_wp2
          go_ret
          exact ⟨_, rfl, HE.out⟩
end Go.Proofs.Ytjjjeeffllelaaa
