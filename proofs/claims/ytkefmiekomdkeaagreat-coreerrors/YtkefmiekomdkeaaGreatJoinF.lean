/- Texts of the layers below, joined: RgN CoT CoV CoW RgB RgC RgD CoY CoZ CoX ArgR Nums StepR ConfR. -/
import Derived.Test.YtkefmiekomdkeaaGreatJoinE
import Derived.Deep.DeepCutAuto
import Derived.Deep.CutBlock
import Derived.StillTailTactics
import Derived.Deep.Slices
import Derived.Deep.Fields
import Derived.ChangeSame

/- Entries of a script and their answers, as values; what an entry that asks is answered. -/
namespace Go.Proofs.YtkefmiekomdkeaaGreat
open Go.RowKit

abbrev anV (e : Int) (y : Bool) (n v : Int) : Value := .agg #[.int .i64 e, .bool y, .int .i64 n, .int .u64 v]

/-- An entry that asks, and what it answers: an error, a flag, a number, a word. -/
def Gr.ask (G : Gr) (k a b : Int) : Int × Bool × Int × Int :=
  if k = 4 then
    if G.wrong a = 0 then
      if 0 ≤ b ∧ b < (G.node (G.held a)).2.length then (0, false, 0, (G.node (G.held a)).2.getD b.toNat 0) else (5, false, 0, 0)
    else (G.wrong a, false, 0, 0)
  else if k = 10 then
    if G.wrong a = 0 then (0, false, (G.node (G.held a)).1.length, (G.node (G.held a)).2.length) else (G.wrong a, false, 0, 0)
  else if k = 8 then
    if G.has a = true ∧ G.has b = true then (0, G.held a == G.held b, 0, 0) else (3, false, 0, 0)
  else if k = 9 then
    if G.has a = true then (0, G.held a == 0, 0, 0) else (3, false, 0, 0)
  else if (k = 11 ∨ k = 12) ∧ (a = 0 ∨ a = 1) then (0, false, 0, 0)
  else (1, false, 0, 0)

/-- Does an entry change something? -/
def turnsK (k : Int) : Prop := k = 1 ∨ k = 2 ∨ k = 3 ∨ k = 5 ∨ k = 6 ∨ k = 7

abbrev anB : Obj := .cells #[.int .i64 0, .bool false, .int .i64 0, .int .u64 0] 54
/-- An answer, laid into its box. -/
abbrev anW (w : World) (k : Nat) (e : Int) (y : Bool) (n v : Int) : World := (((w.setCell ⟨k, 0, none⟩ (.int .i64 e)).setCell ⟨k, 1, none⟩ (.bool y)).setCell ⟨k, 2, none⟩ (.int .i64 n)).setCell ⟨k, 3, none⟩ (.int .u64 v)

theorem anW_blk {w : World} {k : Nat} (h : Blk w k #[.int .i64 0, .bool false, .int .i64 0, .int .u64 0] 54) (e : Int) (y : Bool) (n v : Int) : Blk (anW w k e y n v) k #[.int .i64 e, .bool y, .int .i64 n, .int .u64 v] 54 :=
  (((h.set_ 0 _).set_ 1 _).set_ 2 _).set_ 3 _

theorem anW_frm (w : World) (k : Nat) (e : Int) (y : Bool) (n v : Int) : Frm (fun j => j = k) w (anW w k e y n v) :=
  ((((Frm.refl (fun j => j = k) w).setCell (p := ⟨k, 0, none⟩) (fun _ => rfl) _).setCell (p := ⟨k, 1, none⟩) (fun _ => rfl) _).setCell (p := ⟨k, 2, none⟩) (fun _ => rfl) _).setCell (p := ⟨k, 3, none⟩) (fun _ => rfl) _
end Go.Proofs.YtkefmiekomdkeaaGreat

/- Get, Set, Write, Clear, Copy; Read, Shape, Same, Nil: what each comes to, said of the graph. -/
namespace Go.Proofs.YtkefmiekomdkeaaGreat
open Go.RowKit

section
variable {w w' : World} {b : Nat} {S : Nat → Prop} {s : Co} {G : Gr} {h : Int}

/-- What is wrong with a handle. -/
theorem Gr.wrong_cases (G : Gr) (h : Int) : (G.has h = false ∧ G.wrong h = 3) ∨ (G.has h = true ∧ G.held h = 0 ∧ G.wrong h = 4) ∨ (G.has h = true ∧ G.held h ≠ 0 ∧ G.wrong h = 0) := by
  unfold Gr.wrong
  cases e : G.has h
  · exact .inl ⟨rfl, by rw [if_neg Bool.false_ne_true]⟩
  · by_cases z : G.held h = 0
    · exact .inr (.inl ⟨rfl, z, by rw [if_pos rfl, if_pos z]⟩)
    · exact .inr (.inr ⟨rfl, z, by rw [if_pos rfl, if_neg z]⟩)

theorem Rep.wrong (hC : Cr w b S s) (r : Rep s G) (n : G.wrong h ≠ 0) : Wrong (ptr b) h (G.wrong h) w := by
  rcases G.wrong_cases h with ⟨e, k⟩ | ⟨e, z, k⟩ | ⟨_, _, k⟩
  · rw [k]; exact wrong_no hC ((r.has h).trans e)
  · rw [k]; exact wrong_nil hC ((r.has h).trans e) ((r.nil e).2 z)
  · exact absurd k n

theorem Gr.wrong_zero (k : G.wrong h = 0) : G.has h = true ∧ G.held h ≠ 0 := by
  rcases G.wrong_cases h with ⟨e, k'⟩ | ⟨e, z, k'⟩ | ⟨e, z, _⟩
  · omega
  · omega
  · exact ⟨e, z⟩

/-- A handle holds another node. -/
theorem Rep.hold (r : Rep s G) (d q : Int) (q0 : 0 ≤ q) (q1 : q ≤ G.ns.length) : Rep (s.put (s.hs.set d.toNat (plc G.ns q))) (G.hold d q) :=
  { calm := { left := r.calm.left, half := r.calm.half, idle := r.calm.idle, still := r.calm.still, none := r.calm.none }
    par := r.par
    hs := by
      show s.hs.set d.toNat (plc G.ns q) = (G.hs.set d.toNat q).map (plc G.ns)
      rw [r.hs, List.map_set]
    lg := r.lg
    use := r.use
    d := r.d
    lay := r.lay
    hin := fun h hh => by
      rcases List.mem_or_eq_of_mem_set (show h ∈ G.hs.set d.toNat q from hh) with e | rfl
      · exact r.hin h e
      · exact ⟨q0, q1⟩
    wl := r.wl
    gx := r.gx
    ry := r.ry
    rn := r.rn
    room := r.room
    small := r.small }

/-- A node has turned. -/
theorem Rep.turn (r : Rep s G) (i : Int) (m : Node2) (vs : List Int) (hi : G.ns[i.toNat - 1]? = some (G.node i)) (hz : sz m = sz (G.node i)) (hl : Lay vs (G.ns.set (i.toNat - 1) m)) (hv : vs.length = s.ws.length) : Rep (s.wrote vs) (G.setNode i m) := by
  have es := set_sz hi hz
  exact
  { calm := { left := r.calm.left, half := r.calm.half, idle := r.calm.idle, still := r.calm.still, none := r.calm.none }
    par := r.par
    hs := by
      show s.hs = G.hs.map (plc (G.ns.set (i.toNat - 1) m))
      rw [r.hs]
      exact List.map_congr_left fun h _ => (plc_same es h).symm
    lg := r.lg
    use := by
      show s.yu = tot (G.ns.set (i.toNat - 1) m)
      rw [tot_same es]
      exact r.use
    d := by
      show s.d = ⟨(G.ns.set (i.toNat - 1) m).length, tot (G.ns.set (i.toNat - 1) m), 0, 0, 0, 0, 0, 0⟩
      rw [tot_same es, List.length_set]
      exact r.d
    lay := hl
    hin := fun h hh => by
      show 0 ≤ h ∧ h ≤ (G.ns.set (i.toNat - 1) m).length
      rw [List.length_set]
      exact r.hin h hh
    wl := by
      show (vs.length : Int) = s.cf.words
      rw [hv]
      exact r.wl
    gx := r.gx
    ry := r.ry
    rn := r.rn
    room := by
      show (tot (G.ns.set (i.toNat - 1) m) : Int) ≤ s.cf.nu
      rw [tot_same es]
      exact r.room
    small := fun n hn => by
      rcases List.mem_or_eq_of_mem_set (show n ∈ G.ns.set (i.toNat - 1) m from hn) with e | rfl
      · exact r.small n e
      · have := r.small _ (List.mem_of_getElem? hi)
        unfold sz at hz
        omega }

theorem wrap64_in' {n : Int} (h0 : 0 ≤ n) (h1 : n ≤ 9223372036854775807) : wrap64 n = n := by unfold wrap64; omega

theorem refB_no {p n : Int} (h : ¬ (0 ≤ n ∧ n < p)) : refB p n = false := by
  cases e : refB p n
  · rfl
  · exact absurd (refB_iff.1 e) h
theorem scaB_no {z p n : Int} (h : ¬ (0 ≤ n ∧ n < z - p)) : scaB z p n = false := by
  cases e : scaB z p n
  · rfl
  · exact absurd (scaB_iff.1 e) h

/-- Get: entry 2. -/
theorem get_rep (hC : Cr w b S s) (r : Rep s G) (d h n v : Int) :
    Calls Tryz.prog 29 #[ptr b, .int .i64 d, .int .i64 h, .int .i64 n] w fun e w' => e = .returned (.int .i64 (G.change 2 d h n v).1) ∧ Act13 w b S s (G.change 2 d h n v).1 (G.change 2 d h n v).2 w' := by
  unfold Gr.change
  rw [if_neg (by omega), if_pos rfl]
  by_cases k : G.wrong h = 0
  · rw [if_pos k]
    obtain ⟨e, z⟩ := Gr.wrong_zero k
    have o := r.ob e z
    have hi := r.held_in e
    cases ed : G.has d
    · rw [if_neg Bool.false_ne_true]
      exact (get_to hC o d n ((r.has d).trans ed)).mono fun _ _ ⟨h1, h2⟩ => ⟨h1, .same r h2 _⟩
    · rw [if_pos rfl]
      by_cases hn : 0 ≤ n ∧ n < (G.node (G.held h)).1.length
      · rw [if_pos hn]
        have nd := r.node e z
        have hq : (G.node (G.held h)).1[n.toNat]? = some ((G.node (G.held h)).1.getD n.toNat 0) := by
          rw [List.getD_eq_getElem?_getD, List.getElem?_eq_getElem (show n.toNat < (G.node (G.held h)).1.length by omega)]; rfl
        generalize (G.node (G.held h)).1.getD n.toNat 0 = q at *
        have hp := r.lay.refs _ _ nd q (List.mem_of_getElem? hq)
        have hw := (r.lay.node _ _ nd).refs _ _ hq
        have hwd := r.words hC.may
        have pin := @plc_in G.ns q hp.2
        have hroom := r.room
        have hnu := hC.may.nu1
        have e1 : ((pos G.ns ((G.held h).toNat - 1) : Int) + (2 + n)).toNat = pos G.ns ((G.held h).toNat - 1) + (2 + n.toNat) := by omega
        refine (get_yes hC o d n (plc G.ns q) ((r.has d).trans ed) (refB_iff.2 hn) (by rw [e1]; exact hw) (wrap64_in' (by omega) (by omega)) (r.calm.from_ _) (by rw [r.calm.idle]; omega)).mono ?_
        rintro _ _ ⟨h1, h2⟩
        exact ⟨h1, _, h2, r.hold d q hp.1 hp.2, rfl, fun h => absurd rfl h⟩
      · rw [if_neg hn]
        exact (get_field hC o d n ((r.has d).trans ed) (refB_no hn)).mono fun _ _ ⟨h1, h2⟩ => ⟨h1, .same r h2 _⟩
  · rw [if_neg k]
    exact (get_wrong d h n _ k w (r.wrong hC k)).mono fun _ _ ⟨h1, h2⟩ => ⟨h1, .same r (hC.stay h2) _⟩

/-- Set: entry 3. -/
theorem set_rep (hC : Cr w b S s) (r : Rep s G) (h n f v : Int) :
    Calls Tryz.prog 35 #[ptr b, .int .i64 h, .int .i64 n, .int .i64 f] w fun e w' => e = .returned (.int .i64 (G.change 3 h n f v).1) ∧ Act13 w b S s (G.change 3 h n f v).1 (G.change 3 h n f v).2 w' := by
  unfold Gr.change
  rw [if_neg (by omega), if_neg (by omega), if_pos rfl]
  by_cases k : G.wrong h = 0
  · rw [if_pos k]
    obtain ⟨e, z⟩ := Gr.wrong_zero k
    have o := r.ob e z
    have hi := r.held_in e
    cases ed : G.has f
    · rw [if_neg Bool.false_ne_true]
      exact (set_to hC o n f ((r.has f).trans ed)).mono fun _ _ ⟨h1, h2⟩ => ⟨h1, .same r h2 _⟩
    · rw [if_pos rfl]
      by_cases hn : 0 ≤ n ∧ n < (G.node (G.held h)).1.length
      · rw [if_pos hn]
        have nd := r.node e z
        have hq := r.held_in ed
        have hwd := r.words hC.may
        have pin := @plc_in G.ns (G.held f) hq.2
        have hend := pos_end nd
        have hroom := r.room
        have hnu := hC.may.nu1
        have e1 : ((pos G.ns ((G.held h).toNat - 1) : Int) + (2 + n)).toNat = pos G.ns ((G.held h).toNat - 1) + (2 + n.toNat) := by omega
        have hlay := r.lay.set_ref nd (k := n.toNat) (by omega) hq.1 hq.2
        refine (set_yes hC o n f (plc G.ns (G.held f)) ((r.has f).trans ed) (r.at_ ed) (by omega) (by omega) (by omega) (refB_iff.2 hn) (by unfold sz at hend; omega) (r.calm.old _)).mono ?_
        rw [e1]
        rintro _ _ ⟨h1, h2⟩
        exact ⟨h1, _, h2, r.turn (G.held h) _ _ nd (by simp [sz]) hlay (by simp), rfl, fun h => absurd rfl h⟩
      · rw [if_neg hn]
        exact (set_field hC o n f ((r.has f).trans ed) (refB_no hn)).mono fun _ _ ⟨h1, h2⟩ => ⟨h1, .same r h2 _⟩
  · rw [if_neg k]
    exact (set_wrong h n f _ k w (r.wrong hC k)).mono fun _ _ ⟨h1, h2⟩ => ⟨h1, .same r (hC.stay h2) _⟩

/-- Write: entry 5. -/
theorem write_rep (hC : Cr w b S s) (r : Rep s G) (h n c v : Int) :
    Calls Tryz.prog 34 #[ptr b, .int .i64 h, .int .i64 n, .int .u64 v] w fun e w' => e = .returned (.int .i64 (G.change 5 h n c v).1) ∧ Act13 w b S s (G.change 5 h n c v).1 (G.change 5 h n c v).2 w' := by
  unfold Gr.change
  rw [if_neg (by omega), if_neg (by omega), if_neg (by omega), if_pos rfl]
  by_cases k : G.wrong h = 0
  · rw [if_pos k]
    obtain ⟨e, z⟩ := Gr.wrong_zero k
    have o := r.ob e z
    have hi := r.held_in e
    have hz : (((G.node (G.held h)).1.length + (G.node (G.held h)).2.length : Nat) : Int) - (G.node (G.held h)).1.length = (G.node (G.held h)).2.length := by omega
    by_cases hn : 0 ≤ n ∧ n < (G.node (G.held h)).2.length
    · rw [if_pos hn]
      have nd := r.node e z
      have hwd := r.words hC.may
      have hend := pos_end nd
      have e1 : ((pos G.ns ((G.held h).toNat - 1) : Int) + (2 + ((G.node (G.held h)).1.length + n))).toNat = pos G.ns ((G.held h).toNat - 1) + (2 + ((G.node (G.held h)).1.length + n.toNat)) := by omega
      have hlay := r.lay.set_sca nd (k := n.toNat) (by omega) v
      refine (write_yes hC o n v (scaB_iff.2 (by rw [hz]; exact hn)) (by unfold sz at hend; omega)).mono ?_
      rw [e1]
      rintro _ _ ⟨h1, h2⟩
      exact ⟨h1, _, h2, r.turn (G.held h) _ _ nd (by simp [sz]) hlay (by simp), rfl, fun h => absurd rfl h⟩
    · rw [if_neg hn]
      exact (write_field hC o n v (scaB_no (by rw [hz]; exact hn))).mono fun _ _ ⟨h1, h2⟩ => ⟨h1, .same r h2 _⟩
  · rw [if_neg k]
    exact (write_wrong h n v _ k w (r.wrong hC k)).mono fun _ _ ⟨h1, h2⟩ => ⟨h1, .same r (hC.stay h2) _⟩

/-- Clear: entry 6. -/
theorem clear_rep (hC : Cr w b S s) (r : Rep s G) (h n c v : Int) :
    Calls Tryz.prog 38 #[ptr b, .int .i64 h] w fun e w' => e = .returned (.int .i64 (G.change 6 h n c v).1) ∧ Act13 w b S s (G.change 6 h n c v).1 (G.change 6 h n c v).2 w' := by
  unfold Gr.change
  rw [if_neg (by omega), if_neg (by omega), if_neg (by omega), if_neg (by omega), if_pos rfl]
  cases e : G.has h
  · rw [if_neg Bool.false_ne_true]
    exact (clear_no h 3 (by omega) w (noH_no hC ((r.has h).trans e))).mono fun _ _ ⟨h1, h2⟩ => ⟨h1, by subst h2; exact .same r hC.same _⟩
  · rw [if_pos rfl]
    exact (clear_yes hC ((r.has h).trans e)).mono fun _ _ ⟨h1, h2⟩ => ⟨h1, _, h2, r.hold h 0 (by omega) (by omega), rfl, fun h => absurd rfl h⟩

/-- Copy: entry 7. -/
theorem coCopy_rep (hC : Cr w b S s) (r : Rep s G) (d f c v : Int) :
    Calls Tryz.prog 36 #[ptr b, .int .i64 d, .int .i64 f] w fun e w' => e = .returned (.int .i64 (G.change 7 d f c v).1) ∧ Act13 w b S s (G.change 7 d f c v).1 (G.change 7 d f c v).2 w' := by
  unfold Gr.change
  rw [if_neg (by omega), if_neg (by omega), if_neg (by omega), if_neg (by omega), if_neg (by omega), if_pos rfl]
  cases ef : G.has f
  · rw [if_neg (fun h => Bool.false_ne_true h.2)]
    exact (coCopy_no d f 3 (by omega) w (noH_no hC ((r.has f).trans ef))).mono fun _ _ ⟨h1, h2⟩ => ⟨h1, by subst h2; exact .same r hC.same _⟩
  · cases ed : G.has d
    · rw [if_neg (fun h => Bool.false_ne_true h.1)]
      exact (coCopy_to hC f ((r.has f).trans ef) ((r.has d).trans ed)).mono fun _ _ ⟨h1, h2⟩ => ⟨h1, by subst h2; exact .same r hC.same _⟩
    · rw [if_pos ⟨rfl, rfl⟩]
      have hf := r.held_in ef
      have := coCopy_yes hC f ((r.has f).trans ef) ((r.has d).trans ed)
      rw [r.at_ ef] at this
      exact this.mono fun _ _ ⟨h1, h2⟩ => ⟨h1, _, h2, r.hold d _ hf.1 hf.2, rfl, fun h => absurd rfl h⟩

/-- Read: entry 4. -/
theorem read_rep (hC : Cr w b S s) (r : Rep s G) (h n : Int) :
    Calls Tryz.prog 31 #[ptr b, .int .i64 h, .int .i64 n] w fun e w' => e = .returned (.tuple #[.int .u64 (G.ask 4 h n).2.2.2, .int .i64 (G.ask 4 h n).1]) ∧ (G.ask 4 h n).2.1 = false ∧ (G.ask 4 h n).2.2.1 = 0 ∧ CoR w b S s w' := by
  unfold Gr.ask
  rw [if_pos rfl]
  by_cases k : G.wrong h = 0
  · rw [if_pos k]
    obtain ⟨e, z⟩ := Gr.wrong_zero k
    have o := r.ob e z
    have hi := r.held_in e
    have hz : (((G.node (G.held h)).1.length + (G.node (G.held h)).2.length : Nat) : Int) - (G.node (G.held h)).1.length = (G.node (G.held h)).2.length := by omega
    by_cases hn : 0 ≤ n ∧ n < (G.node (G.held h)).2.length
    · rw [if_pos hn]
      have nd := r.node e z
      have hq : (G.node (G.held h)).2[n.toNat]? = some ((G.node (G.held h)).2.getD n.toNat 0) := by
        rw [List.getD_eq_getElem?_getD, List.getElem?_eq_getElem (show n.toNat < (G.node (G.held h)).2.length by omega)]; rfl
      have hw := (r.lay.node _ _ nd).scas _ _ hq
      have e1 : ((pos G.ns ((G.held h).toNat - 1) : Int) + (2 + ((G.node (G.held h)).1.length + n))).toNat = pos G.ns ((G.held h).toNat - 1) + (2 + ((G.node (G.held h)).1.length + n.toNat)) := by omega
      exact (read_yes hC o n _ (scaB_iff.2 (by rw [hz]; exact hn)) (by rw [e1]; exact hw)).mono fun _ _ ⟨h1, h2⟩ => ⟨h1, rfl, rfl, h2⟩
    · rw [if_neg hn]
      exact (read_field hC o n (scaB_no (by rw [hz]; exact hn))).mono fun _ _ ⟨h1, h2⟩ => ⟨h1, rfl, rfl, h2⟩
  · rw [if_neg k]
    exact (read_wrong h n _ k w (r.wrong hC k)).mono fun _ _ ⟨h1, h2⟩ => ⟨h1, rfl, rfl, hC.stay h2⟩

/-- Shape: entry 10. -/
theorem shape_rep (hC : Cr w b S s) (r : Rep s G) (h n : Int) :
    Calls Tryz.prog 28 #[ptr b, .int .i64 h] w fun e w' => e = .returned (.tuple #[.int .i64 (G.ask 10 h n).2.2.1, .int .i64 (G.ask 10 h n).2.2.2, .int .i64 (G.ask 10 h n).1]) ∧ (G.ask 10 h n).2.1 = false ∧ CoR w b S s w' := by
  unfold Gr.ask
  rw [if_neg (by omega), if_pos rfl]
  by_cases k : G.wrong h = 0
  · rw [if_pos k]
    obtain ⟨e, z⟩ := Gr.wrong_zero k
    have hz : (((G.node (G.held h)).1.length + (G.node (G.held h)).2.length : Nat) : Int) - (G.node (G.held h)).1.length = (G.node (G.held h)).2.length := by omega
    have := shape_yes hC (r.ob e z)
    rw [hz] at this
    exact this.mono fun _ _ ⟨h1, h2⟩ => ⟨h1, rfl, h2⟩
  · rw [if_neg k]
    exact (shape_wrong h _ w (r.wrong hC k)).mono fun _ _ ⟨h1, h2⟩ => ⟨h1, rfl, hC.stay h2⟩

/-- Same: entry 8. -/
theorem same_rep (hC : Cr w b S s) (r : Rep s G) (h f : Int) :
    Calls Tryz.prog 37 #[ptr b, .int .i64 h, .int .i64 f] w fun e w' => e = .returned (.tuple #[.bool (G.ask 8 h f).2.1, .int .i64 (G.ask 8 h f).1]) ∧ (G.ask 8 h f).2.2 = (0, 0) ∧ w = w' := by
  unfold Gr.ask
  rw [if_neg (by omega), if_neg (by omega), if_pos rfl]
  cases eh : G.has h
  · rw [if_neg (fun h => Bool.false_ne_true h.1)]
    exact (same_no h f 3 (by omega) w (noH_no hC ((r.has h).trans eh))).mono fun _ _ ⟨h1, h2⟩ => ⟨h1, rfl, h2⟩
  · cases ef : G.has f
    · rw [if_neg (fun h => Bool.false_ne_true h.2)]
      exact (same_to hC f ((r.has h).trans eh) ((r.has f).trans ef)).mono fun _ _ ⟨h1, h2⟩ => ⟨h1, rfl, h2⟩
    · rw [if_pos ⟨rfl, rfl⟩]
      have i1 := r.held_in eh
      have i2 := r.held_in ef
      have := same_yes hC f ((r.has h).trans eh) ((r.has f).trans ef)
      rw [r.at_ eh, r.at_ ef, show decide (plc G.ns (G.held h) = plc G.ns (G.held f)) = (G.held h == G.held f) by
        by_cases e : G.held h = G.held f
        · rw [e]; simp
        · rw [decide_eq_false fun q => e (plc_inj i1.1 i1.2 i2.1 i2.2 q)]; exact (beq_false_of_ne e).symm] at this
      exact this.mono fun _ _ ⟨h1, h2⟩ => ⟨h1, rfl, h2⟩

/-- Nil: entry 9. -/
theorem nil_rep (hC : Cr w b S s) (r : Rep s G) (h f : Int) :
    Calls Tryz.prog 30 #[ptr b, .int .i64 h] w fun e w' => e = .returned (.tuple #[.bool (G.ask 9 h f).2.1, .int .i64 (G.ask 9 h f).1]) ∧ (G.ask 9 h f).2.2 = (0, 0) ∧ w = w' := by
  unfold Gr.ask
  rw [if_neg (by omega), if_neg (by omega), if_neg (by omega), if_pos rfl]
  cases eh : G.has h
  · rw [if_neg Bool.false_ne_true]
    exact (nil_no h 3 (by omega) w (noH_no hC ((r.has h).trans eh))).mono fun _ _ ⟨h1, h2⟩ => ⟨h1, rfl, h2⟩
  · rw [if_pos rfl]
    have := nil_yes hC ((r.has h).trans eh)
    rw [show decide (s.at_ h = 0) = (G.held h == 0) by
      by_cases e : G.held h = 0
      · rw [decide_eq_true ((r.nil eh).2 e), e]; rfl
      · rw [decide_eq_false fun q => e ((r.nil eh).1 q)]; exact (beq_false_of_ne e).symm] at this
    exact this.mono fun _ _ ⟨h1, h2⟩ => ⟨h1, rfl, h2⟩
end
end Go.Proofs.YtkefmiekomdkeaaGreat

/- The statements' configurations: config. -/
namespace Go.Proofs.YtkefmiekomdkeaaGreat
open Go.RowKit

/-- The configuration that the statements draw. -/
def cfgOf (a b c d : Int) : Cfg where
  ha := a % 5 + 2
  nu := 24 + b % 60
  ps := b / 16 % 12 + 1
  pz := 16 + 16 * (a / 64)
  cd := (16 + 16 * (a / 64)) / (if c % 3 = 0 then 1 else if c % 3 = 1 then 2 else 4)
  bf := c / 4 % 4
  st := c / 16 % 4 + 1
  tn := c / 64 % 3 + 1
  lg := d % 8 + 1
  mi := d / 8 % 8
  ma := d / 64 * 2
  na := 12 + a % 8
  ja := b % 3 % 2

/-- A byte. -/
def By (a : Int) : Prop := 0 ≤ a ∧ a ≤ 255

/-- A divisor of the page. -/
def dvK (c : Int) : Int := if c % 3 = 0 then 1 else if c % 3 = 1 then 2 else 4
theorem dvK_in (c : Int) : dvK c = 1 ∨ dvK c = 2 ∨ dvK c = 4 := by unfold dvK; split <;> (try split) <;> simp
theorem dvK_wrap (c : Int) : wrap64 (2 ^ (c % 3).toNat) = dvK c := by
  unfold dvK
  have h : c % 3 = 0 ∨ c % 3 = 1 ∨ c % 3 = 2 := by omega
  rcases h with h | h | h <;> rw [h] <;> simp [wrap64]
theorem dvK_div (c x : Int) (x0 : 0 ≤ x) (x1 : x ≤ 100) : wrap64 (x.tdiv (dvK c)) = x / dvK c := by
  rcases dvK_in c with h | h | h <;> rw [h] <;> rw [Int.tdiv_eq_ediv_of_nonneg x0] <;> unfold wrap64 <;> omega

theorem cfgOf_may (a b c d : Int) (ha : By a) (hb : By b) (hc : By c) (hd : By d) : (cfgOf a b c d).May := by
  obtain ⟨a0, a1⟩ := ha
  obtain ⟨b0, b1⟩ := hb
  obtain ⟨c0, c1⟩ := hc
  obtain ⟨d0, d1⟩ := hd
  have e : (cfgOf a b c d).cd = (16 + 16 * (a / 64)) / dvK c := rfl
  constructor
  case cd0 => rw [e]; rcases dvK_in c with h | h | h <;> rw [h] <;> omega
  case cd1 =>
    rw [e]
    show (16 + 16 * (a / 64)).tmod _ = 0
    refine Int.tmod_eq_zero_of_dvd ?_
    rcases dvK_in c with h | h | h <;> rw [h]
    · rw [Int.ediv_one]; exact Int.dvd_refl _
    · exact ⟨2, by omega⟩
    · exact ⟨4, by omega⟩
  all_goals simp only [cfgOf]; omega

set_option maxHeartbeats 4000000 in
theorem config_any (a b c d : Int) (ha : By a) (hb : By b) (hc : By c) (hd : By d) (w : World) :
    Calls Tryz.prog 18 #[.int .u8 a, .int .u8 b, .int .u8 c, .int .u8 d] w fun e w' => e = .returned (cfgOf a b c d).v ∧ Below w.heap.size w w' := by
  obtain ⟨a0, a1⟩ := ha
  obtain ⟨b0, b1⟩ := hb
  obtain ⟨c0, c1⟩ := hc
  obtain ⟨d0, d1⟩ := hd
  have hk := dvK_wrap c
  have hd := dvK_div c (16 + 16 * (a / 64)) (by omega) (by omega)
  have k0 : ¬ dvK c = 0 := by rcases dvK_in c with h | h | h <;> rw [h] <;> omega
  have hE : (cfgOf a b c d).cd = (16 + 16 * (a / 64)) / dvK c := rfl
  have HE := Lib.hid hE
  clear hE
  go_enter Tryz.func18, Tryz.ntmps18
  go_wp2
  exact bodyPost_ret (v := (cfgOf a b c d).v) (by simp [results, Tryz.results18, go_sem]; exact ⟨rfl, rfl, rfl, rfl, HE.out.symm, rfl, rfl, rfl, rfl, rfl, rfl, rfl, rfl⟩) rfl ⟨rfl, (Below.refl _ _).alloc (Nat.le_refl _) _⟩
end Go.Proofs.YtkefmiekomdkeaaGreat

/- A core made since some world, which holds a graph, with the caller's blocks beside it. -/
namespace Go.Proofs.YtkefmiekomdkeaaGreat
open Go.RowKit

/-- Block b is a core made since w0, which holds the graph G; no block of Z is its own; what there was is as it was. -/
structure Kz (w0 w : World) (Z : Nat → Prop) (b : Nat) (s : Co) (G : Gr) : Prop where
  is : ∃ S, Cr w b S s ∧ ∀ k, S k → w0.heap.size ≤ k ∧ ¬ Z k
  rep : Rep s G
  bel : Below w0.heap.size w0 w
  low : ∀ k, Z k → w0.heap.size ≤ k ∧ k < w.heap.size

/-- The same, made so. -/
def Kg (w0 w : World) (Z : Nat → Prop) (b : Nat) (c : Cfg) (G : Gr) : Prop := ∃ s, Kz w0 w Z b s G ∧ s.cf = c

section
variable {w0 w w' : World} {Z Z' : Nat → Prop} {b : Nat} {s s' : Co} {c : Cfg} {G G' : Gr}

theorem Kz.write {T : Nat → Prop} (h : Kz w0 w Z b s G) (f : Frm T w w') (hs : ∀ k, k < w.heap.size → T k → Z k) (hz : ∀ k, Z' k → Z k ∨ (w.heap.size ≤ k ∧ k < w'.heap.size)) : Kz w0 w' Z' b s G := by
  obtain ⟨S, hC, ho⟩ := h.is
  refine ⟨⟨S, hC.frm (T := fun k => T k ∧ k < w.heap.size) ⟨f.os, f.tape, f.output, f.size, fun k hk hn => f.block k hk fun e => hn ⟨e, hk⟩⟩ fun k hk ht => (ho k hk).2 (hs k ht.2 ht.1), fun k hk => ⟨(ho k hk).1, fun hz' => ?_⟩⟩, h.rep, ?_, fun k hk => ?_⟩
  · rcases hz k hz' with e | e
    · exact (ho k hk).2 e
    · have := hC.lt hk; omega
  · refine Below.frm (S := fun k => T k ∧ k < w.heap.size) h.bel ⟨f.os, f.tape, f.output, f.size, fun k hk hn => f.block k hk fun e => hn ⟨e, hk⟩⟩ h.bel.size fun k hk ht => ?_
    have := (h.low k (hs k ht.2 ht.1)).1
    omega
  · rcases hz k hk with e | e
    · exact ⟨(h.low k e).1, Nat.lt_of_lt_of_le (h.low k e).2 f.size⟩
    · exact ⟨Nat.le_trans h.bel.size e.1, e.2⟩
theorem Kz.grow (h : Kz w0 w Z b s G) (f : Below w.heap.size w w') (hz : ∀ k, Z' k → Z k ∨ (w.heap.size ≤ k ∧ k < w'.heap.size)) : Kz w0 w' Z' b s G :=
  h.write (T := fun _ => False) (Frm.of_below f) (fun _ _ e => e.elim) hz
theorem Kz.keep (h : Kz w0 w Z b s G) (f : Below w.heap.size w w') : Kz w0 w' Z b s G := h.grow f fun _ => .inl

theorem Kz.step {S : Nat → Prop} (h : Kz w0 w Z b s G) (ho : ∀ k, S k → w0.heap.size ≤ k ∧ ¬ Z k) (r : CoR w b S s' w') (rep : Rep s' G') : Kz w0 w' Z b s' G' ∧ Kp Z w w' := by
  obtain ⟨S', hC, m⟩ := r
  refine ⟨⟨⟨S', hC, fun k hk => ?_⟩, rep, Below.frm h.bel m.frm h.bel.size fun k hk e => ?_, fun k hk => ⟨(h.low k hk).1, Nat.lt_of_lt_of_le (h.low k hk).2 m.frm.size⟩⟩, m.frm.mono fun k _ hk hz => (ho k hk).2 hz⟩
  · rcases m.at_ k hk with e | e
    · exact ho k e
    · exact ⟨Nat.le_trans h.bel.size e, fun hz => by have := (h.low k hz).2; omega⟩
  · have := (ho k e).1; omega

theorem Kz.act {P : Program} {fn : FuncId} {args : Array Value} {R : Ending → Prop} {E : Int} (h : Kz w0 w Z b s G) (c : ∀ S, Cr w b S s → Calls P fn args w fun e w' => R e ∧ Act13 w b S s E G' w') :
    Calls P fn args w fun e w' => R e ∧ ∃ s', Kz w0 w' Z b s' G' ∧ Kp Z w w' ∧ s'.cf = s.cf ∧ (E ≠ 0 → s' = s) := by
  obtain ⟨S, hC, ho⟩ := h.is
  exact (c S hC).mono fun e w' ⟨r, s', k, q, e1, e2⟩ => ⟨r, s', (h.step ho k q).1, (h.step ho k q).2, e1, e2⟩

/-- A call that leaves the core as it is. -/
theorem Kz.look {P : Program} {fn : FuncId} {args : Array Value} {R : Ending → Prop} (h : Kz w0 w Z b s G) (c : ∀ S, Cr w b S s → Calls P fn args w fun e w' => R e ∧ CoR w b S s w') :
    Calls P fn args w fun e w' => R e ∧ Kz w0 w' Z b s G ∧ Kp Z w w' := by
  obtain ⟨S, hC, ho⟩ := h.is
  exact (c S hC).mono fun e w' ⟨r, k⟩ => ⟨r, h.step ho k h.rep⟩

theorem Kg.keep (h : Kg w0 w Z b c G) (f : Below w.heap.size w w') : Kg w0 w' Z b c G := let ⟨s, k, e⟩ := h; ⟨s, k.keep f, e⟩
theorem Kg.grow (h : Kg w0 w Z b c G) (f : Below w.heap.size w w') (hz : ∀ k, Z' k → Z k ∨ (w.heap.size ≤ k ∧ k < w'.heap.size)) : Kg w0 w' Z' b c G := let ⟨s, k, e⟩ := h; ⟨s, k.grow f hz, e⟩
theorem Kg.write {T : Nat → Prop} (h : Kg w0 w Z b c G) (f : Frm T w w') (hs : ∀ k, k < w.heap.size → T k → Z k) (hz : ∀ k, Z' k → Z k ∨ (w.heap.size ≤ k ∧ k < w'.heap.size)) : Kg w0 w' Z' b c G := let ⟨s, k, e⟩ := h; ⟨s, k.write f hs hz, e⟩
theorem Kg.bel (h : Kg w0 w Z b c G) : Below w0.heap.size w0 w := h.choose_spec.1.bel
theorem Kg.low (h : Kg w0 w Z b c G) : ∀ k, Z k → w0.heap.size ≤ k ∧ k < w.heap.size := h.choose_spec.1.low

theorem Kg.act {P : Program} {fn : FuncId} {args : Array Value} {R : Ending → Prop} {E : Int} {G' : Gr} (h : Kg w0 w Z b c G) (q : ∀ S s, s.cf = c → Cr w b S s → Rep s G → Calls P fn args w fun e w' => R e ∧ Act13 w b S s E G' w') :
    Calls P fn args w fun e w' => R e ∧ Kg w0 w' Z b c G' ∧ Kp Z w w' := by
  obtain ⟨s, k, rfl⟩ := h
  exact (k.act fun S hC => q S s rfl hC k.rep).mono fun e w' ⟨r, s', k', p, e1, _⟩ => ⟨r, ⟨s', k', e1⟩, p⟩
theorem Kg.look {P : Program} {fn : FuncId} {args : Array Value} {R : Ending → Prop} (h : Kg w0 w Z b c G) (q : ∀ S s, s.cf = c → Cr w b S s → Rep s G → Calls P fn args w fun e w' => R e ∧ CoR w b S s w') :
    Calls P fn args w fun e w' => R e ∧ Kg w0 w' Z b c G ∧ Kp Z w w' := by
  obtain ⟨s, k, rfl⟩ := h
  exact (k.look fun S hC => q S s rfl hC k.rep).mono fun e w' ⟨r, k', p⟩ => ⟨r, ⟨s, k', rfl⟩, p⟩

/-- A new core. -/
def Gr.none_ (c : Cfg) : Gr := ⟨[], zeros c.ha, c.lg⟩

theorem cellsP_free (F G : Int) (n : Nat) : cellsP F G (List.replicate n Pg.free) = [] := by
  unfold cellsP
  rw [List.flatMap_eq_nil_iff]
  intro i hi
  rw [List.length_replicate] at hi
  rw [List.getD_eq_getElem?_getD, List.getElem?_replicate, if_pos (by simpa using hi)]
  rfl

theorem rep_fresh (hm : c.May) : Rep (Co.fresh c) (Gr.none_ c) where
  calm := ⟨rfl, rfl, rfl, rfl, cellsP_free _ _ _⟩
  par := rfl
  hs := by
    show zeros c.ha = (zeros c.ha).map (plc [])
    unfold zeros
    rw [List.map_replicate]
    rfl
  lg := rfl
  use := rfl
  d := rfl
  lay := by
    have e := hm.words
    have := hm.nu0
    refine ⟨fun i n h => (by cases h), fun i n h => (by cases h), ?_⟩
    show 1 + 0 ≤ (List.replicate c.words.toNat (0 : Int)).length
    rw [List.length_replicate]
    unfold Cfg.words
    omega
  hin := fun h hh => by
    obtain rfl := (List.mem_replicate.1 hh).2
    exact ⟨by omega, by omega⟩
  wl := by
    have e := hm.words
    have := hm.nu0
    show ((List.replicate c.words.toNat (0 : Int)).length : Int) = c.words
    rw [List.length_replicate]
    unfold Cfg.words
    omega
  gx := rfl
  ry := rfl
  rn := by
    show (List.replicate _ false).count true = 0
    exact List.count_eq_zero.2 fun h => by cases (List.mem_replicate.1 h).2
  room := by have := hm.nu0; show (0 : Int) ≤ c.nu; omega
  small := fun n h => by cases h

theorem kz_new (hm : c.May) (bel : Below w0.heap.size w0 w) (low : ∀ k, Z k → w0.heap.size ≤ k ∧ k < w.heap.size) :
    Calls Tryz.prog 13 #[c.v] w fun e w' => ∃ b, e = .returned (.tuple #[ptr b, .int .i64 0]) ∧ Kz w0 w' Z b (Co.fresh c) (Gr.none_ c) ∧ Kp Z w w' :=
  (coNew_yes c w hm).mono fun _ _ ⟨b, S, he, hC, hb, ho⟩ => ⟨b, he, ⟨⟨S, hC, fun k hk => ⟨Nat.le_trans bel.size (ho k hk), fun hz => by have := (low k hz).2; have := ho k hk; omega⟩⟩, rep_fresh hm, below_trans bel hb, fun k hk => ⟨(low k hk).1, Nat.lt_of_lt_of_le (low k hk).2 hb.size⟩⟩, Kp.of_below hb⟩
theorem kg_new (hm : c.May) (bel : Below w0.heap.size w0 w) (low : ∀ k, Z k → w0.heap.size ≤ k ∧ k < w.heap.size) :
    Calls Tryz.prog 13 #[c.v] w fun e w' => ∃ b, e = .returned (.tuple #[ptr b, .int .i64 0]) ∧ Kg w0 w' Z b c (Gr.none_ c) ∧ Kp Z w w' :=
  (kz_new hm bel low).mono fun _ _ ⟨b, he, k, p⟩ => ⟨b, he, ⟨_, k, rfl⟩, p⟩

/-! The entries, by a core that was made so. -/

theorem kg_make (h : Kg w0 w Z b c G) (a p q : Int) (q1 : q ≤ 9223372036854775807) :
    Calls Tryz.prog 27 #[ptr b, .int .i64 a, .int .i64 p, .int .i64 q] w fun e w' => e = .returned (.int .i64 (stE c.nu G 1 a p q 0)) ∧ Kg w0 w' Z b c (stG c.nu G 1 a p q 0) ∧ Kp Z w w' :=
  h.act (E := stE c.nu G 1 a p q 0) fun _ _ e hC r => by have := make_rep hC r a p q 0 q1; rwa [e] at this
theorem kg_get (h : Kg w0 w Z b c G) (d a n : Int) :
    Calls Tryz.prog 29 #[ptr b, .int .i64 d, .int .i64 a, .int .i64 n] w fun e w' => e = .returned (.int .i64 (G.change 2 d a n 0).1) ∧ Kg w0 w' Z b c (G.change 2 d a n 0).2 ∧ Kp Z w w' :=
  h.act (E := (G.change 2 d a n 0).1) fun _ _ _ hC r => get_rep hC r d a n 0
theorem kg_set (h : Kg w0 w Z b c G) (a n f : Int) :
    Calls Tryz.prog 35 #[ptr b, .int .i64 a, .int .i64 n, .int .i64 f] w fun e w' => e = .returned (.int .i64 (G.change 3 a n f 0).1) ∧ Kg w0 w' Z b c (G.change 3 a n f 0).2 ∧ Kp Z w w' :=
  h.act (E := (G.change 3 a n f 0).1) fun _ _ _ hC r => set_rep hC r a n f 0
theorem kg_write (h : Kg w0 w Z b c G) (a n v : Int) :
    Calls Tryz.prog 34 #[ptr b, .int .i64 a, .int .i64 n, .int .u64 v] w fun e w' => e = .returned (.int .i64 (G.change 5 a n 0 v).1) ∧ Kg w0 w' Z b c (G.change 5 a n 0 v).2 ∧ Kp Z w w' :=
  h.act (E := (G.change 5 a n 0 v).1) fun _ _ _ hC r => write_rep hC r a n 0 v
theorem kg_clear (h : Kg w0 w Z b c G) (a : Int) :
    Calls Tryz.prog 38 #[ptr b, .int .i64 a] w fun e w' => e = .returned (.int .i64 (G.change 6 a 0 0 0).1) ∧ Kg w0 w' Z b c (G.change 6 a 0 0 0).2 ∧ Kp Z w w' :=
  h.act (E := (G.change 6 a 0 0 0).1) fun _ _ _ hC r => clear_rep hC r a 0 0 0
theorem kg_copy (h : Kg w0 w Z b c G) (d f : Int) :
    Calls Tryz.prog 36 #[ptr b, .int .i64 d, .int .i64 f] w fun e w' => e = .returned (.int .i64 (G.change 7 d f 0 0).1) ∧ Kg w0 w' Z b c (G.change 7 d f 0 0).2 ∧ Kp Z w w' :=
  h.act (E := (G.change 7 d f 0 0).1) fun _ _ _ hC r => coCopy_rep hC r d f 0 0
theorem kg_read (h : Kg w0 w Z b c G) (a n : Int) :
    Calls Tryz.prog 31 #[ptr b, .int .i64 a, .int .i64 n] w fun e w' => e = .returned (.tuple #[.int .u64 (G.ask 4 a n).2.2.2, .int .i64 (G.ask 4 a n).1]) ∧ Kg w0 w' Z b c G ∧ Kp Z w w' :=
  h.look fun _ _ _ hC r => (read_rep hC r a n).mono fun _ _ ⟨h1, _, _, h2⟩ => ⟨h1, h2⟩
theorem kg_shape (h : Kg w0 w Z b c G) (a : Int) :
    Calls Tryz.prog 28 #[ptr b, .int .i64 a] w fun e w' => e = .returned (.tuple #[.int .i64 (G.ask 10 a 0).2.2.1, .int .i64 (G.ask 10 a 0).2.2.2, .int .i64 (G.ask 10 a 0).1]) ∧ Kg w0 w' Z b c G ∧ Kp Z w w' :=
  h.look fun _ _ _ hC r => (shape_rep hC r a 0).mono fun _ _ ⟨h1, _, h2⟩ => ⟨h1, h2⟩
theorem kg_same (h : Kg w0 w Z b c G) (a f : Int) :
    Calls Tryz.prog 37 #[ptr b, .int .i64 a, .int .i64 f] w fun e w' => e = .returned (.tuple #[.bool (G.ask 8 a f).2.1, .int .i64 (G.ask 8 a f).1]) ∧ w = w' := by
  obtain ⟨s, k, _⟩ := h
  obtain ⟨S, hC, _⟩ := k.is
  exact (same_rep hC k.rep a f).mono fun _ _ ⟨h1, _, h2⟩ => ⟨h1, h2⟩
theorem kg_nil (h : Kg w0 w Z b c G) (a : Int) :
    Calls Tryz.prog 30 #[ptr b, .int .i64 a] w fun e w' => e = .returned (.tuple #[.bool (G.ask 9 a 0).2.1, .int .i64 (G.ask 9 a 0).1]) ∧ w = w' := by
  obtain ⟨s, k, _⟩ := h
  obtain ⟨S, hC, _⟩ := k.is
  exact (nil_rep hC k.rep a 0).mono fun _ _ ⟨h1, _, h2⟩ => ⟨h1, h2⟩
theorem kg_stats (h : Kg w0 w Z b c G) :
    Calls Tryz.prog 14 #[ptr b] w fun e w' => e = .returned (stV8 G.ns.length (tot G.ns) 0 0 0 (tot G.ns) 0 (c.ps * c.pz)) ∧ Below w.heap.size w w' := by
  obtain ⟨s, k, rfl⟩ := h
  obtain ⟨S, hC, _⟩ := k.is
  have u := k.rep.calm.used
  have := stats_any hC (by omega) (by omega)
  rw [u, k.rep.calm.left, k.rep.use, k.rep.d, Int.add_zero, Int.sub_zero] at this
  exact this
end
end Go.Proofs.YtkefmiekomdkeaaGreat

/- Contracts of the document's graph: has, wrong, New. -/
namespace Go.Proofs.YtkefmiekomdkeaaGreat
open Go.RowKit

section
variable {w : World} {g : Nat} {S : Nat → Prop} {G : Gr}

/-- A handle that there is, and what it holds. -/
theorem Rg.at_ (h : Rg w g S G) {a : Int} (ha : G.has a = true) : ∃ (i : Nat) (x : Int), a = i ∧ i < G.hs.length ∧ G.hs[i]? = some x ∧ G.held a = x ∧ 0 ≤ x ∧ x ≤ G.ns.length := by
  obtain ⟨vN, hA, hc, nd, hi, e, rfl⟩ := h
  unfold Gr.has at ha
  simp at ha
  obtain ⟨i, rfl⟩ : ∃ i : Nat, a = i := ⟨a.toNat, by omega⟩
  have hl : i < G.hs.length := by omega
  have hx := List.getElem?_eq_getElem hl
  have hin := hi.hin _ (List.mem_of_getElem? hx)
  refine ⟨i, _, rfl, hl, hx, ?_, hin.1, ?_⟩
  · unfold Gr.held
    rw [Int.toNat_natCast, List.getD_eq_getElem?_getD, hx]; rfl
  · rw [e, List.length_map]; exact hin.2
end

set_option maxHeartbeats 1000000 in
theorem rgHas_any (w : World) (g : Nat) (S : Nat → Prop) (G : Gr) (h : Int) (r : Rg w g S G) :
    Calls Tryz.prog 56 #[.pointer (some ⟨g, 0, none⟩), .int .i64 h] w fun e w' => e = .returned (.bool (G.has h)) ∧ w = w' := by
  obtain ⟨vN, hA, hc, nd, hi, _, _⟩ := r
  have c1 : w.cell? ⟨g, 1, none⟩ = some (.slice hA G.hs.length hc) := hi.blk.cell 1
  clear hi
  unfold Gr.has
  generalize G.hs.length = n at c1 ⊢
  by_cases h0 : 0 ≤ h
  · have d0 : decide (0 ≤ h) = true := decide_eq_true h0
    go_enter Tryz.func56, Tryz.ntmps56
    go_wp2
    all_goals
      go_ret
      exact ⟨by first | rfl | exact ret_bool (by simp [h0]) | exact ret_bool (by simp; omega), rfl⟩
  · have d0 : decide (0 ≤ h) = false := decide_eq_false h0
    go_enter Tryz.func56, Tryz.ntmps56
    go_wp2
    all_goals
      go_ret
      exact ⟨by first | rfl | exact ret_bool (by simp [h0]) | exact ret_bool (by simp; omega), rfl⟩

set_option maxHeartbeats 1000000 in
theorem rgWrong_any (w : World) (g : Nat) (S : Nat → Prop) (G : Gr) (h : Int) (r : Rg w g S G) :
    Calls Tryz.prog 55 #[.pointer (some ⟨g, 0, none⟩), .int .i64 h] w fun e w' => e = .returned (.int .i64 (G.wrong h)) ∧ w = w' := by
  have HH := Lib.hid (rgHas_any w g S G h r)
  cases hb : G.has h
  · have HW := Lib.hid (show G.wrong h = 3 from by simp [Gr.wrong, hb])
    rw [hb] at HH
    clear r hb
    go_enter Tryz.func55, Tryz.ntmps55
    go_wp2_with fail
    refine HH.out.mono ?_
    rintro e w1 ⟨rfl, rfl⟩
    go_wp2
    go_ret
    exact ⟨ret_int HW.out.symm, rfl⟩
  · obtain ⟨i, x, rfl, hl, hx, hv, x0, x1⟩ := r.at_ hb
    have HW := Lib.hid (show G.wrong i = if x = 0 then 4 else 0 from by simp [Gr.wrong, hb, hv])
    obtain ⟨vN, hA, hc, nd, hi, _, _⟩ := r
    have c1 : w.cell? ⟨g, 1, none⟩ = some (.slice hA G.hs.length hc) := hi.blk.cell 1
    obtain ⟨q, off, rfl, _, hcx, _⟩ := hi.hrow.at_ (by omega)
    have cx := hcx i x hx
    have hf := hi.hfew
    rw [hb] at HH
    clear hi hcx hv hx hb
    generalize G.hs.length = n at c1 hl hf ⊢
    by_cases z : x = 0
    · subst z
      rw [if_pos rfl] at HW
      go_enter Tryz.func55, Tryz.ntmps55
      go_wp2_with fail
      refine HH.out.mono ?_
      rintro e w1 ⟨rfl, rfl⟩
      go_wp2
      go_ret
      exact ⟨ret_int HW.out.symm, rfl⟩
    · rw [if_neg z] at HW
      go_enter Tryz.func55, Tryz.ntmps55
      go_wp2_with fail
      refine HH.out.mono ?_
      rintro e w1 ⟨rfl, rfl⟩
      go_wp2
      go_ret
      exact ⟨ret_int HW.out.symm, rfl⟩

theorem info_node : (Tryz.prog.info? 97).map (fun i => (i.zero, i.size, i.bytes)) = some (some (.agg #[.slice none 0 0, .slice none 0 0]), 2, 48) := by kernel_rfl

theorem run_make_node (w : World) :
    (Instr.makeSlice 92 (.int .i64 1) (.int .i64 1)).run Tryz.prog w = .ok (.slice (some ⟨w.heap.size, 0, none⟩) 1 1) (w.alloc (.cells #[.slice none 0 0, .slice none 0 0] 97)) := by
  obtain ⟨i, hi, hz, hs, hb⟩ := info_parts info_node
  have h := run_make (P := Tryz.prog) w 92 97 i _ Tryz.underlying92 hi hz .i64 .i64 1 1 (by decide) (Int.le_refl _) (by rw [hb]; decide) (by decide)
  rw [hs] at h
  have e : madeCells (Value.agg #[.slice none 0 0, .slice none 0 0]).cells (Int.toNat 1 * 2) = #[.slice none 0 0, .slice none 0 0] := by
    apply Array.ext
    · simp [madeCells]
    · intro i h1 h2
      have hi : i < 2 := by simpa using h2
      match i, hi with
      | 0, _ => simp [madeCells, Value.cells]
      | 1, _ => simp [madeCells, Value.cells]
  rw [e] at h
  exact h

/-- How many handles there are. -/
def nhI (h : Int) : Nat := (min (max h 0) 64).toNat

/-- A graph that was just made. -/
def Gr.new (h l : Int) : Gr := ⟨[], List.replicate (nhI h) 0, cutI l 0 64⟩

theorem rep_snoc (i : Nat) : List.replicate i (0 : Int) ++ [0] = List.replicate (i + 1) 0 := by
  rw [List.replicate_succ']

theorem IsG.setHs {w : World} {g : Nat} {vN : Value} {hA hA' : Option Addr} {hc hc' : Nat} {nd : List Nd} {hs hs' : List Int} {lg : Int} (h : IsG w g vN hA hc nd hs lg) {w' : World} (gr : Grw hA hA' w w') (q : Qu w' hA' hs'.length hc' hs')
    (hin : ∀ x ∈ hs', 0 ≤ x ∧ x ≤ nd.length) (hf : hs'.length ≤ 64) :
    IsG (w'.setCell ⟨g, 1, none⟩ (.slice hA' hs'.length hc')) g vN hA' hc' nd hs' lg ∧ Mv (gOwn g vN hA nd) (gOwn g vN hA' nd) w (w'.setCell ⟨g, 1, none⟩ (.slice hA' hs'.length hc')) := by
  have no : ∀ {k : Nat} {cs : Array Value} {ty : TypeId}, Blk w k cs ty → ty ≠ 3 → blkOf hA ≠ some k := by
    intro k cs ty hk n1 e
    rcases h.hrow.lies with ⟨rfl, _⟩ | ⟨g', off, cs', rfl, hb', _⟩
    · cases e
    · cases e
      exact Blk.ne_ hk hb' n1 rfl
  have kb := h.blk.frm gr.frm (no h.blk (by decide))
  have fs : Frm (fun k => k = g) w' (w'.setCell ⟨g, 1, none⟩ (.slice hA' hs'.length hc')) := Frm.setCell (S := fun k => k = g) (Frm.refl _ _) (p := ⟨g, 1, none⟩) (fun _ => rfl) _
  have gq : ∀ k, blkOf hA' = some k → k ≠ g := by
    rintro k e rfl
    rcases q.lies with ⟨rfl, _⟩ | ⟨g', off, cs', rfl, hb', _⟩
    · cases e
    · cases e
      exact Blk.ne_ kb hb' (by decide) rfl
  obtain ⟨nb, nc, cur, en, hnb, _⟩ := h.row
  have nr : w'.ownsRow 0 97 2 vN (nd.length + 1) (ndV nd) := ownsRow_frm h.nrow gr.frm (by
    intro j e; rw [en] at e; cases e; exact no hnb (by decide))
  have hap' : ∀ x ∈ nd, blkOf hA' ≠ some x.pb := by
    intro x hx e
    rcases gr.at_ _ e with e1 | e1
    · exact h.hap x hx e1
    · have := (h.ptr x hx).lt; omega
  refine ⟨{ blk := kb.set_ 1 _, hrow := q.frm fs gq, nrow := ownsRow_frm nr fs ?_, ptr := ?_, sca := ?_, hap := hap', nap := h.nap, hin := hin, pin := h.pin, few := h.few, hfew := hf, lg0 := h.lg0, lg1 := h.lg1, size := h.size }, ?_, ?_⟩
  · intro j e; rw [en] at e; cases e
    exact fun e => Blk.ne_ (hnb.frm gr.frm (no hnb (by decide))) kb (by decide) e
  · intro x hx
    have k1 := (h.ptr x hx).frm gr.frm (h.hap x hx)
    exact k1.frm fs fun e => Blk.ne_ k1 kb (by decide) e
  · intro x hx
    have k1 := (h.sca x hx).frm gr.frm (no (h.sca x hx) (by decide))
    exact k1.frm fs fun e => Blk.ne_ k1 kb (by decide) e
  · refine Frm.setCell (p := ⟨g, 1, none⟩) (gr.frm.mono fun i _ e => .inr (.inr (.inl e))) (fun _ => .inl rfl) _
  · rintro k (rfl | e | e | e)
    · exact .inl (.inl rfl)
    · exact .inl (.inr (.inl e))
    · rcases gr.at_ k e with e | e
      · exact .inl (.inr (.inr (.inl e)))
      · exact .inr e
    · exact .inl (.inr (.inr (.inr e)))

theorem IsG.four {w : World} {g : Nat} {vN : Value} {hA : Option Addr} {hc : Nat} {nd : List Nd} {hs : List Int} {lg : Int} (h : IsG w g vN hA hc nd hs lg) :
    w.cell? ⟨g, 0, none⟩ = some vN ∧ w.cell? ⟨g, 1, none⟩ = some (.slice hA hs.length hc) ∧ w.cell? ⟨g, 2, none⟩ = some (.int .i64 lg) ∧ ∀ i, w.frozen? ⟨g, i, none⟩ = false := ⟨h.blk.cell 0, h.blk.cell 1, h.blk.cell 2, h.blk.frozen⟩

/-- Where New stands behind i handles. -/
def NewR (w : World) (g : Nat) (L : Int) (i : Nat) (w' : World) : Prop := ∃ nb hA hc, IsG w' g (.slice (some ⟨nb, 0, none⟩) 1 1) hA hc [] (List.replicate i 0) L ∧ (∀ k, gOwn g (.slice (some ⟨nb, 0, none⟩) 1 1) hA [] k → w.heap.size ≤ k) ∧ Below w.heap.size w w'

theorem newR_start (w : World) (L : Int) (h0 : 0 ≤ L) (h1 : L ≤ 64) (w' : World) (g : Nat)
    (hb : Blk w' g #[.slice (some ⟨w.heap.size, 0, none⟩) 1 1, .slice none 0 0, .int .i64 L] 94) (hn : Blk w' w.heap.size #[.slice none 0 0, .slice none 0 0] 97) (gw : w.heap.size ≤ g) (bel : Below w.heap.size w w') : NewR w g L 0 w' := by
  refine ⟨w.heap.size, none, 0, ⟨hb, Qu.nil _, ⟨rfl, .inr ⟨w.heap.size, 1, _, rfl, Nat.zero_le _, hn, Nat.le_refl _, by decide, rfl, rfl⟩⟩, by simp, by simp, by simp, .nil, by simp, by simp, by simp, by simp, h0, h1, by simp⟩, ?_, bel⟩
  rintro k (rfl | e | e | ⟨x, hx, _⟩)
  · exact gw
  · cases e; exact Nat.le_refl _
  · cases e
  · cases hx

theorem newR_first (w : World) (L : Int) (h0 : 0 ≤ L) (h1 : L ≤ 64) :
    NewR w (w.heap.size + 1) L 0 ((w.alloc (.cells #[.slice none 0 0, .slice none 0 0] 97)).alloc (.cells #[.slice (some ⟨w.heap.size, 0, none⟩) 1 1, .slice none 0 0, .int .i64 L] 94)) := by
  have b1 := Blk.new (w.alloc (.cells #[.slice none 0 0, .slice none 0 0] 97)) #[.slice (some ⟨w.heap.size, 0, none⟩) 1 1, .slice none 0 0, .int .i64 L] 94
  rw [show (w.alloc (.cells #[.slice none 0 0, .slice none 0 0] 97)).heap.size = w.heap.size + 1 by simp] at b1
  exact newR_start w L h0 h1 _ _ b1 ((Blk.new w _ _).alloc _) (by omega) (((Below.refl _ _).alloc (Nat.le_refl _) _).alloc (by simp) _)

/-- One more handle. -/
theorem NewR.more {w w1 w2 : World} {g : Nat} {L : Int} {i hc hc' nb : Nat} {hA hA' : Option Addr} (h : IsG w1 g (.slice (some ⟨nb, 0, none⟩) 1 1) hA hc [] (List.replicate i 0) L) (low : ∀ k, gOwn g (.slice (some ⟨nb, 0, none⟩) 1 1) hA [] k → w.heap.size ≤ k)
    (bel : Below w.heap.size w w1) (gr : Grw hA hA' w1 w2) (q : Qu w2 hA' (i + 1) hc' (List.replicate i 0 ++ [0])) (hi : i < 64) : NewR w g L (i + 1) (w2.setCell ⟨g, 1, none⟩ (.slice hA' (i + 1) hc')) := by
  rw [rep_snoc] at q
  have hl : (List.replicate (i + 1) (0 : Int)).length = i + 1 := List.length_replicate
  have q' : Qu w2 hA' (List.replicate (i + 1) (0 : Int)).length hc' (List.replicate (i + 1) 0) := by rw [hl]; exact q
  obtain ⟨h1, mv⟩ := h.setHs gr q' (fun x hx => by rw [List.eq_of_mem_replicate hx]; simp) (by rw [hl]; omega)
  rw [hl] at h1 mv
  refine ⟨nb, hA', hc', h1, fun k hk => ?_, Below.frm bel mv.frm bel.size fun k hk e => ?_⟩
  · rcases mv.at_ k hk with e | e
    · exact low k e
    · exact Nat.le_trans bel.size e
  · have := low k e; omega

set_option maxHeartbeats 4000000 in
theorem rgNew_any (hn l : Int) (w : World) :
    Calls Tryz.prog 19 #[.int .i64 hn, .int .i64 l] w fun e w' => ∃ g, e = .returned (.pointer (some ⟨g, 0, none⟩)) ∧ ∃ S, Rg w' g S (Gr.new hn l) ∧ Below w.heap.size w w' ∧ ∀ k, S k → w.heap.size ≤ k := by
  have hmk := run_make_node
  obtain ⟨n, hnn⟩ : ∃ n, nhI hn = n := ⟨_, rfl⟩
  have n1 : (n : Int) = min (max hn 0) 64 := by rw [← hnn]; unfold nhI; omega
  obtain ⟨L, hL⟩ : ∃ L, cutI l 0 64 = L := ⟨_, rfl⟩
  have L0 : 0 ≤ L := by rw [← hL]; exact (cutI_in (by decide)).1
  have L1 : L ≤ 64 := by rw [← hL]; exact (cutI_in (by decide)).2
  have eG : Gr.new hn l = ⟨[], List.replicate n 0, L⟩ := by unfold Gr.new; rw [hnn, hL]
  rw [eG]
  have HZ := Lib.hid (newR_first w L L0 L1)
  have hN := Lib.hid n1
  clear hnn eG n1
  have hs : (l < 0 ∧ L = 0) ∨ (64 < l ∧ L = 64) ∨ (0 ≤ l ∧ l ≤ 64 ∧ L = l) := by
    rw [← hL]; unfold cutI
    by_cases h0 : l < 0
    · exact .inl ⟨h0, if_pos h0⟩
    · by_cases h1 : 64 < l
      · exact .inr (.inl ⟨h1, by rw [if_neg h0, if_pos h1]⟩)
      · exact .inr (.inr ⟨by omega, by omega, by rw [if_neg h0, if_neg h1]⟩)
  clear hL
  rcases hs with ⟨h0, rfl⟩ | ⟨h0, rfl⟩ | ⟨h0, h1, rfl⟩
  all_goals
    go_enter Tryz.func19, Tryz.ntmps19
    go_wp2_with fail
    clear hmk
    go_loopw [6] (fun s wr => ∃ i : Nat, i ≤ n ∧ s = .int .i64 i ∧ Hid (NewR w (w.heap.size + 1) _ i wr)) (fun s _ => n - (intOf s).toNat)
    case atStart => exact ⟨0, Nat.zero_le _, rfl, HZ⟩
    case round =>
      clear HZ
      obtain ⟨i, hi, rfl, HR⟩ := hrel
      generalize w.heap.size + 1 = g at *
      by_cases hlt : i < n
      · have i1 : (i : Int) < hn := by have := hN.out; omega
        have i2 : (i : Int) < 64 := by have := hN.out; omega
        obtain ⟨nb, hA, hc, hg, low, bel⟩ := HR.out
        obtain ⟨c0, c1, c2, cf⟩ := hg.four
        rw [List.length_replicate] at c1
        have hl := hg.blk.lt
        have al : Below wr.heap.size wr (wr.alloc (.cells #[.int .i64 0] 3)) := (Below.refl _ _).alloc (Nat.le_refl _) _
        have H2 := Lib.hid (And.intro (hg.keep al) (And.intro low (below_trans bel al)))
        have Q2 := Lib.hid (show Qu (wr.alloc (.cells #[.int .i64 0] 3)) hA i hc (List.replicate i 0) from by have := (hg.keep al).hrow; rwa [List.length_replicate] at this)
        have E2 := Lib.hid (show (wr.alloc (.cells #[.int .i64 0] 3)).cell? ⟨wr.heap.size, 0, none⟩ = some (.int .i64 0) from (Blk.new wr #[.int .i64 0] 3).cell 0)
        clear hg low bel c0 c2 al HR
        go_wp2_with (first
          | (at_builtin; (refine wpList_append_qu _ rfl _ _ rfl Q2.out (by omega) 0 ⟨wr.heap.size, 0, none⟩ 1 rfl rfl E2.out ?_))
          | fail)
        intro A' c' w2 q gr
        have kb := H2.out.1.blk.frm gr.frm (fun e => by
          rcases H2.out.1.hrow.lies with ⟨rfl, _⟩ | ⟨g', off, cs', rfl, hb', _⟩
          · cases e
          · cases e
            exact Blk.ne_ H2.out.1.blk hb' (by decide) rfl)
        have cf2 : w2.frozen? ⟨g, 1, none⟩ = false := kb.frozen 1
        have ex2 : w2.cell? ⟨g, 1, none⟩ = some (.slice hA (List.replicate i (0 : Int)).length hc) := kb.cell 1
        have HN := Lib.hid (NewR.more H2.out.1 H2.out.2.1 H2.out.2.2 gr q (by omega))
        clear kb q gr H2 Q2 E2 c1 cf
        go_wp2
        go_roundw
        case rel => exact ⟨i + 1, by omega, by go_num, HN⟩
        case measure => simp [intOf]; omega
      · obtain rfl : n = i := by omega
        have HE := Lib.hid (show ∃ S, Rg wr g S ⟨[], List.replicate n 0, _⟩ ∧ Below w.heap.size w wr ∧ ∀ k, S k → w.heap.size ≤ k from by
          obtain ⟨nb, hA, hc, hg, low, bel⟩ := HR.out
          exact ⟨_, ⟨_, _, _, [], hg, rfl, rfl⟩, bel, low⟩)
        have hs : ¬ ((n : Int) < hn ∧ (n : Int) < 64) := by have := hN.out; omega
        clear HR
        by_cases i1 : (n : Int) < hn
        · have i2 : ¬ (n : Int) < 64 := fun e => hs ⟨i1, e⟩
          go_wp2
          go_ret
          exact ⟨_, rfl, HE.out⟩
        · go_wp2
          go_ret
          exact ⟨_, rfl, HE.out⟩
end Go.Proofs.YtkefmiekomdkeaaGreat

/- The document's graph: how it turns in memory where a handle, a reference or a scalar is set, or a node is added. -/
namespace Go.Proofs.YtkefmiekomdkeaaGreat
open Go.RowKit

section
variable {w : World} {g : Nat} {vN : Value} {hA : Option Addr} {hc : Nat} {nd : List Nd} {hs : List Int} {lg : Int}

theorem IsG.hNe (h : IsG w g vN hA hc nd hs lg) {k : Nat} {cs : Array Value} {ty : TypeId} (hk : Blk w k cs ty) (n1 : ty ≠ 3) : blkOf hA ≠ some k := by
  intro e
  rcases h.hrow.lies with ⟨rfl, _⟩ | ⟨g', off, cs', rfl, hb', _⟩
  · cases e
  · cases e
    exact Blk.ne_ hk hb' n1 rfl

/-- A handle holds something else. -/
theorem IsG.hold {q off : Nat} (h : IsG w g vN (some ⟨q, off, none⟩) hc nd hs lg) (i : Nat) (x : Int) (x0 : 0 ≤ x) (x1 : x ≤ nd.length) :
    IsG (w.setCell ⟨q, off + i, none⟩ (.int .i64 x)) g vN (some ⟨q, off, none⟩) hc nd (hs.set i x) lg ∧ Mv (gOwn g vN (some ⟨q, off, none⟩) nd) (gOwn g vN (some ⟨q, off, none⟩) nd) w (w.setCell ⟨q, off + i, none⟩ (.int .i64 x)) := by
  have fs : Frm (fun k => k = q) w (w.setCell ⟨q, off + i, none⟩ (.int .i64 x)) := Frm.setCell (S := fun k => k = q) (Frm.refl _ _) (p := ⟨q, off + i, none⟩) (fun _ => rfl) _
  have hl : (hs.set i x).length = hs.length := List.length_set
  obtain ⟨nb, nc, cur, en, hnb, _⟩ := h.row
  refine ⟨{ h with blk := ?_, hrow := ?_, nrow := ownsRow_frm h.nrow fs ?_, ptr := ?_, sca := ?_, hin := ?_, hfew := by rw [hl]; exact h.hfew }, fs.mono fun k _ e => .inr (.inr (.inl (by rw [e]; rfl))), fun k e => .inl e⟩
  · rw [hl]; exact h.blk.frm fs fun e => h.hNe h.blk (by decide) (by rw [e]; rfl)
  · rw [hl]; exact h.hrow.put i x
  · intro j e; rw [en] at e; cases e
    intro (e : nb = q)
    exact h.hNe hnb (by decide) (by rw [e]; rfl)
  · exact fun y hy => (h.ptr y hy).frm fs fun e => h.hap y hy (by rw [e]; rfl)
  · exact fun y hy => (h.sca y hy).frm fs fun e => h.hNe (h.sca y hy) (by decide) (by rw [e]; rfl)
  · intro y hy
    rcases List.mem_or_eq_of_mem_set hy with hy | rfl
    · exact h.hin y hy
    · exact ⟨x0, x1⟩

theorem nd_set {nd : List Nd} {i : Nat} {x y : Nd} (_ : nd[i]? = some x) (P : Nd → Prop) (hp : ∀ z ∈ nd, P z) (hy : P y) : ∀ z ∈ nd.set i y, P z := by
  intro z hz
  rcases List.mem_or_eq_of_mem_set hz with hz | rfl
  · exact hp z hz
  · exact hy

theorem pair_set {nd : List Nd} {i : Nat} {x y : Nd} (h : nd[i]? = some x) (e1 : y.pb = x.pb) (e2 : y.sb = x.sb) (hp : nd.Pairwise fun x y => x.pb ≠ y.pb ∧ x.sb ≠ y.sb) : (nd.set i y).Pairwise fun x y => x.pb ≠ y.pb ∧ x.sb ≠ y.sb := by
  rw [List.pairwise_iff_getElem] at hp ⊢
  intro a b ha hb hab
  rw [List.length_set] at ha hb
  obtain ⟨_, hi⟩ := List.getElem?_eq_some_iff.1 h
  have := hp a b ha hb hab
  rw [List.getElem_set, List.getElem_set]
  by_cases h1 : i = a
  · subst h1
    rw [if_pos rfl, if_neg (by omega), e1, e2, ← hi]; exact this
  · by_cases h2 : i = b
    · subst h2
      rw [if_neg h1, if_pos rfl, e1, e2, ← hi]; exact this
    · rw [if_neg h1, if_neg h2]; exact this

theorem other_blk {i : Nat} {x : Nd} (hx : nd[i]? = some x) (hp : nd.Pairwise fun x y => x.pb ≠ y.pb ∧ x.sb ≠ y.sb) {j : Nat} {z : Nd} (hz : nd[j]? = some z) (hj : i ≠ j) : z.pb ≠ x.pb ∧ z.sb ≠ x.sb := by
  rw [List.pairwise_iff_getElem] at hp
  obtain ⟨hi, rfl⟩ := List.getElem?_eq_some_iff.1 hx
  obtain ⟨hj', rfl⟩ := List.getElem?_eq_some_iff.1 hz
  rcases Nat.lt_or_gt_of_ne hj with hlt | hlt
  · have := hp i j hi hj' hlt; exact ⟨fun e => this.1 e.symm, fun e => this.2 e.symm⟩
  · exact hp j i hj' hi hlt

theorem gOwn_set {i : Nat} {x y : Nd} (hx : nd[i]? = some x) (e1 : y.pb = x.pb) (e2 : y.sb = x.sb) {k : Nat} : gOwn g vN hA (nd.set i y) k → gOwn g vN hA nd k := by
  rintro (e | e | e | ⟨z, hz, e⟩)
  · exact .inl e
  · exact .inr (.inl e)
  · exact .inr (.inr (.inl e))
  · rcases List.mem_or_eq_of_mem_set hz with hz | rfl
    · exact .inr (.inr (.inr ⟨z, hz, e⟩))
    · exact .inr (.inr (.inr ⟨x, List.mem_of_getElem? hx, by rw [← e1, ← e2]; exact e⟩))

theorem ints_set (ys : List Int) (k : Nat) (v : Int) : (ints ys).toArray.setIfInBounds k (.int .i64 v) = (ints (ys.set k v)).toArray := by apply Array.ext'; simp [ints]
theorem wordsU_set (ys : List Int) (k : Nat) (v : Int) : (wordsU ys).toArray.setIfInBounds k (.int .u64 v) = (wordsU (ys.set k v)).toArray := by apply Array.ext'; simp [wordsU]

/-- A node refers to something else. -/
theorem IsG.refer {i : Nat} {x : Nd} (h : IsG w g vN hA hc nd hs lg) (hx : nd[i]? = some x) (k : Nat) (v : Int) (v0 : 0 ≤ v) (v1 : v ≤ nd.length) :
    IsG (w.setCell ⟨x.pb, k, none⟩ (.int .i64 v)) g vN hA hc (nd.set i ⟨x.ps.set k v, x.ss, x.pb, x.sb⟩) hs lg ∧ Mv (gOwn g vN hA nd) (gOwn g vN hA (nd.set i ⟨x.ps.set k v, x.ss, x.pb, x.sb⟩)) w (w.setCell ⟨x.pb, k, none⟩ (.int .i64 v)) := by
  have fs : Frm (fun j => j = x.pb) w (w.setCell ⟨x.pb, k, none⟩ (.int .i64 v)) := Frm.setCell (S := fun j => j = x.pb) (Frm.refl _ _) (p := ⟨x.pb, k, none⟩) (fun _ => rfl) _
  have hm := List.mem_of_getElem? hx
  obtain ⟨nb, nc, cur, en, hnb, _⟩ := h.row
  have bx := h.ptr x hm
  have hl : (nd.set i ⟨x.ps.set k v, x.ss, x.pb, x.sb⟩).length = nd.length := List.length_set
  refine ⟨{ blk := h.blk.frm fs (fun e => Blk.ne_ h.blk bx (by decide) e), hrow := h.hrow.frm fs (fun j hj e => h.hap x hm (by rw [hj, e])), nrow := ?_, ptr := ?_, sca := ?_, hap := nd_set hx _ h.hap (h.hap x hm), nap := (pair_set hx rfl rfl h.nap), hin := (by rw [hl]; exact h.hin), pin := ?_, few := (by rw [hl]; exact h.few), hfew := h.hfew, lg0 := h.lg0, lg1 := h.lg1, size := nd_set hx _ h.size (by rw [List.length_set]; exact h.size x hm) }, ?_, fun j e => .inl (gOwn_set (y := ⟨x.ps.set k v, x.ss, x.pb, x.sb⟩) hx rfl rfl e)⟩
  · rw [hl, ndV_set nd i x _ hx (by simp [Nd.vs])]
    refine ownsRow_frm h.nrow fs ?_
    intro j e; rw [en] at e; cases e
    exact fun e => Blk.ne_ hnb bx (by decide) e
  · intro z hz
    rw [List.mem_iff_getElem?] at hz
    obtain ⟨j, hj⟩ := hz
    by_cases e : i = j
    · subst e
      have hi := (List.getElem?_eq_some_iff.1 hx).1
      rw [List.getElem?_set_self hi] at hj
      cases hj
      have := bx.set_ k (.int .i64 v)
      rw [ints_set] at this
      exact this
    · rw [List.getElem?_set_ne e] at hj
      exact (h.ptr z (List.mem_of_getElem? hj)).frm fs (other_blk hx h.nap hj e).1
  · refine nd_set hx (fun z => Blk (w.setCell ⟨x.pb, k, none⟩ (.int .i64 v)) z.sb (wordsU z.ss).toArray 50) (fun z hz => (h.sca z hz).frm fs fun e => Blk.ne_ (h.sca z hz) bx (by decide) e) ((h.sca x hm).frm fs fun e => Blk.ne_ (h.sca x hm) bx (by decide) e)
  · rw [hl]
    refine nd_set hx (fun z => ∀ q ∈ z.ps, 0 ≤ q ∧ q ≤ nd.length) h.pin fun q hq => ?_
    rcases List.mem_or_eq_of_mem_set hq with hq | rfl
    · exact h.pin x hm q hq
    · exact ⟨v0, v1⟩
  · exact fs.mono fun j _ e => .inr (.inr (.inr ⟨x, hm, .inl e⟩))

/-- A node has another scalar. -/
theorem IsG.write {i : Nat} {x : Nd} (h : IsG w g vN hA hc nd hs lg) (hx : nd[i]? = some x) (k : Nat) (v : Int) :
    IsG (w.setCell ⟨x.sb, k, none⟩ (.int .u64 v)) g vN hA hc (nd.set i ⟨x.ps, x.ss.set k v, x.pb, x.sb⟩) hs lg ∧ Mv (gOwn g vN hA nd) (gOwn g vN hA (nd.set i ⟨x.ps, x.ss.set k v, x.pb, x.sb⟩)) w (w.setCell ⟨x.sb, k, none⟩ (.int .u64 v)) := by
  have fs : Frm (fun j => j = x.sb) w (w.setCell ⟨x.sb, k, none⟩ (.int .u64 v)) := Frm.setCell (S := fun j => j = x.sb) (Frm.refl _ _) (p := ⟨x.sb, k, none⟩) (fun _ => rfl) _
  have hm := List.mem_of_getElem? hx
  obtain ⟨nb, nc, cur, en, hnb, _⟩ := h.row
  have bx := h.sca x hm
  have hl : (nd.set i ⟨x.ps, x.ss.set k v, x.pb, x.sb⟩).length = nd.length := List.length_set
  refine ⟨{ blk := h.blk.frm fs (fun e => Blk.ne_ h.blk bx (by decide) e), hrow := h.hrow.frm fs (fun j hj e => h.hNe bx (by decide) (by rw [hj, e])), nrow := ?_, ptr := ?_, sca := ?_, hap := nd_set hx _ h.hap (h.hap x hm), nap := (pair_set hx rfl rfl h.nap), hin := (by rw [hl]; exact h.hin), pin := ?_, few := (by rw [hl]; exact h.few), hfew := h.hfew, lg0 := h.lg0, lg1 := h.lg1, size := nd_set hx _ h.size (by rw [List.length_set]; exact h.size x hm) }, ?_, fun j e => .inl (gOwn_set (y := ⟨x.ps, x.ss.set k v, x.pb, x.sb⟩) hx rfl rfl e)⟩
  · rw [hl, ndV_set nd i x _ hx (by simp [Nd.vs])]
    refine ownsRow_frm h.nrow fs ?_
    intro j e; rw [en] at e; cases e
    exact fun e => Blk.ne_ hnb bx (by decide) e
  · refine nd_set hx (fun z => Blk (w.setCell ⟨x.sb, k, none⟩ (.int .u64 v)) z.pb (ints z.ps).toArray 3) (fun z hz => (h.ptr z hz).frm fs fun e => Blk.ne_ (h.ptr z hz) bx (by decide) e) ((h.ptr x hm).frm fs fun e => Blk.ne_ (h.ptr x hm) bx (by decide) e)
  · intro z hz
    rw [List.mem_iff_getElem?] at hz
    obtain ⟨j, hj⟩ := hz
    by_cases e : i = j
    · subst e
      have hi := (List.getElem?_eq_some_iff.1 hx).1
      rw [List.getElem?_set_self hi] at hj
      cases hj
      have := bx.set_ k (.int .u64 v)
      rw [wordsU_set] at this
      exact this
    · rw [List.getElem?_set_ne e] at hj
      exact (h.sca z (List.mem_of_getElem? hj)).frm fs (other_blk hx h.nap hj e).2
  · rw [hl]
    exact nd_set hx (fun z => ∀ q ∈ z.ps, 0 ≤ q ∧ q ≤ nd.length) h.pin (h.pin x hm)
  · exact fs.mono fun j _ e => .inr (.inr (.inr ⟨x, hm, .inr e⟩))
end

section
variable {w : World} {g : Nat} {S : Nat → Prop} {G : Gr}
/-- A node that there is. -/
theorem node_at {nd : List Nd} (e : G.ns = nd.map Nd.two) {x : Int} (x0 : 0 < x) (x1 : x ≤ nd.length) : ∃ (i : Nat) (y : Nd), x = ((i + 1 : Nat) : Int) ∧ nd[i]? = some y ∧ G.node x = (y.ps, y.ss) ∧ x.toNat - 1 = i := by
  obtain ⟨i, rfl⟩ : ∃ i : Nat, x = ((i + 1 : Nat) : Int) := ⟨x.toNat - 1, by omega⟩
  have hi : i < nd.length := by omega
  refine ⟨i, _, rfl, List.getElem?_eq_getElem hi, ?_, by omega⟩
  unfold Gr.node
  rw [e, Int.toNat_natCast, Nat.add_sub_cancel, List.getD_eq_getElem?_getD, List.getElem?_map, List.getElem?_eq_getElem hi]
  rfl
end
end Go.Proofs.YtkefmiekomdkeaaGreat

/- Contracts of the document's graph: entries that change something, but making. -/
namespace Go.Proofs.YtkefmiekomdkeaaGreat
open Go.RowKit

abbrev sgV (k a b c v : Int) : Value := .agg #[.int .i64 k, .int .i64 a, .int .i64 b, .int .i64 c, .int .u64 v]
abbrev stB (k a b c v : Int) : Obj := .cells #[.int .i64 k, .int .i64 a, .int .i64 b, .int .i64 c, .int .u64 v] 52

/-- An error, and what it comes to. -/
def ChR (w : World) (g : Nat) (S : Nat → Prop) (G : Gr) (k a b c v : Int) (e : Ending) (w' : World) : Prop :=
  e = .returned (.int .i64 (G.change k a b c v).1) ∧ ∃ S', Rg w' g S' (G.change k a b c v).2 ∧ Mv S S' w w'

theorem chR_err {w w' : World} {g : Nat} {S : Nat → Prop} {G : Gr} {k a b c v x : Int} (h : Rg w g S G) (f : Below w.heap.size w w') (e : G.change k a b c v = (x, G)) : ChR w g S G k a b c v (.returned (.int .i64 x)) w' := by
  unfold ChR
  rw [e]
  exact ⟨rfl, S, h.keep f, Mv.of_below f⟩

section
variable (w : World) (g : Nat) (S : Nat → Prop) (G : Gr) (a b c v : Int)

set_option maxRecDepth 100000 in
set_option maxHeartbeats 4000000 in
theorem rgClear (r : Rg w g S G) : Calls Tryz.prog 54 #[.pointer (some ⟨g, 0, none⟩), sgV 6 a b c v] w fun e w' => ChR w g S G 6 a b c v e w' := by
  have al : Below w.heap.size w (w.alloc (stB 6 a b c v)) := (Below.refl _ _).alloc (Nat.le_refl _) _
  have HH := Lib.hid (rgHas_any _ g S G a (r.keep al))
  cases hb : G.has a
  · rw [hb] at HH
    have HE := Lib.hid (chR_err (k := 6) (a := a) (b := b) (c := c) (v := v) (x := 3) r al (by simp [Gr.change, hb]))
    clear r hb al
    go_enter Tryz.func54, Tryz.ntmps54
    go_wp2_with fail
    refine HH.out.mono ?_
    rintro e w1 ⟨rfl, rfl⟩
    go_wp2
    go_ret
    exact HE.out
  · obtain ⟨i, x, rfl, hl, hx, hv, x0, x1⟩ := r.at_ hb
    rw [hb] at HH
    have ec : G.change 6 i b c v = (0, G.hold i 0) := by simp [Gr.change, hb]
    obtain ⟨vN, hA, hc, nd, hi, eN, rfl⟩ := r
    have hk := hi.keep al
    obtain ⟨q, off, rfl, _, hcx, hfz⟩ := hk.hrow.at_ (by omega)
    have cx := hcx i x hx
    have kb := Blk.new w #[.int .i64 6, .int .i64 i, .int .i64 b, .int .i64 c, .int .u64 v] 52
    have hf := hi.hfew
    obtain ⟨c0, c1, c2, cf⟩ := hk.four
    have HE := Lib.hid (fun (w' : World) (f : Below (w.alloc (stB 6 i b c v)).heap.size (w.alloc (stB 6 i b c v)) w') => (show ChR w g (gOwn g vN (some ⟨q, off, none⟩) nd) G 6 i b c v (.returned (.int .i64 0)) (w'.setCell ⟨q, off + i, none⟩ (.int .i64 0)) from by
      obtain ⟨h1, mv⟩ := (hk.keep f).hold i 0 (by decide) (by omega)
      unfold ChR
      rw [ec]
      exact ⟨rfl, _, ⟨vN, _, hc, nd, by unfold Gr.hold; rw [Int.toNat_natCast]; exact h1, eN, rfl⟩, Mv.pre (below_trans al f) mv⟩))
    have s1 := kb.cell 1
    have sf := kb.frozen
    clear hi hcx hv hx hb ec kb al x0 x1 eN c0 c2
    generalize G.hs.length = n at c1 hl hf
    go_enter Tryz.func54, Tryz.ntmps54
    go_wp2_with fail
    refine HH.out.mono ?_
    rintro e w1 ⟨rfl, rfl⟩
    generalize hW : w.alloc (stB 6 i b c v) = W at *
    go_wp2_with fail
    go_region
    go_wp2
    go_ret
    exact HE.out _ (below_drew _)

set_option maxRecDepth 100000 in
set_option maxHeartbeats 4000000 in
theorem rgCopy (r : Rg w g S G) : Calls Tryz.prog 54 #[.pointer (some ⟨g, 0, none⟩), sgV 7 a b c v] w fun e w' => ChR w g S G 7 a b c v e w' := by
  have al : Below w.heap.size w (w.alloc (stB 7 a b c v)) := (Below.refl _ _).alloc (Nat.le_refl _) _
  have HH := Lib.hid (rgHas_any _ g S G a (r.keep al))
  have HB := Lib.hid (rgHas_any _ g S G b (r.keep al))
  cases hb : G.has a
  · rw [hb] at HH
    have HE := Lib.hid (chR_err (k := 7) (a := a) (b := b) (c := c) (v := v) (x := 3) r al (by simp [Gr.change, hb]))
    clear r hb al HB
    go_enter Tryz.func54, Tryz.ntmps54
    go_wp2_with fail
    refine HH.out.mono ?_
    rintro e w1 ⟨rfl, rfl⟩
    go_wp2
    go_ret
    exact HE.out
  · rw [hb] at HH
    cases hd : G.has b
    · rw [hd] at HB
      have HE := Lib.hid (chR_err (k := 7) (a := a) (b := b) (c := c) (v := v) (x := 3) r al (by simp [Gr.change, hb, hd]))
      clear r hb hd al
      go_enter Tryz.func54, Tryz.ntmps54
      go_wp2_with fail
      refine HH.out.mono ?_
      rintro e w1 ⟨rfl, rfl⟩
      go_wp2_with fail
      refine HB.out.mono ?_
      rintro e w1 ⟨rfl, rfl⟩
      go_wp2
      go_ret
      exact HE.out
    · rw [hd] at HB
      obtain ⟨i, x, rfl, hl, hx, hv, x0, x1⟩ := r.at_ hb
      obtain ⟨j, y, rfl, jl, hy, yv, y0, y1⟩ := r.at_ hd
      have ec : G.change 7 i j c v = (0, G.hold i y) := by simp [Gr.change, hb, hd, yv]
      obtain ⟨vN, hA, hc, nd, hi, eN, rfl⟩ := r
      have hk := hi.keep al
      obtain ⟨q, off, rfl, _, hcx, hfz⟩ := hk.hrow.at_ (by omega)
      have cx := hcx i x hx
      have cy := hcx j y hy
      have kb := Blk.new w #[.int .i64 7, .int .i64 i, .int .i64 j, .int .i64 c, .int .u64 v] 52
      have hf := hi.hfew
      obtain ⟨c0, c1, c2, cf⟩ := hk.four
      have HE := Lib.hid (fun (w' : World) (f : Below (w.alloc (stB 7 i j c v)).heap.size (w.alloc (stB 7 i j c v)) w') => (show ChR w g (gOwn g vN (some ⟨q, off, none⟩) nd) G 7 i j c v (.returned (.int .i64 0)) (w'.setCell ⟨q, off + i, none⟩ (.int .i64 y)) from by
        obtain ⟨h1, mv⟩ := (hk.keep f).hold i y y0 (by rw [eN, List.length_map] at y1; exact y1)
        unfold ChR
        rw [ec]
        exact ⟨rfl, _, ⟨vN, _, hc, nd, by unfold Gr.hold; rw [Int.toNat_natCast]; exact h1, eN, rfl⟩, Mv.pre (below_trans al f) mv⟩))
      have s1 := kb.cell 1
      have s2 := kb.cell 2
      have sf := kb.frozen
      clear hi hcx hv yv hx hy hb hd ec kb al x0 x1 y0 y1 eN c0 c2
      generalize G.hs.length = n at c1 hl jl hf
      go_enter Tryz.func54, Tryz.ntmps54
      go_wp2_with fail
      refine HH.out.mono ?_
      rintro e w1 ⟨rfl, rfl⟩
      go_wp2_with fail
      refine HB.out.mono ?_
      rintro e w1 ⟨rfl, rfl⟩
      generalize hW : w.alloc (stB 7 i j c v) = W at *
      go_wp2_with fail
      go_region
      go_wp2
      go_ret
      exact HE.out _ (below_drew _)

end

/-- A step's box, a node's copy, and the graph beside them. -/
structure Gx (w V : World) (g : Nat) (vN : Value) (hA : Option Addr) (hc : Nat) (nd : List Nd) (hs : List Int) (lg : Int) (sb nb : Nat) (k a b c v : Int) (z : Nd) : Prop where
  isg : IsG V g vN hA hc nd hs lg
  bel : Below w.heap.size w V
  st : Blk V sb #[.int .i64 k, .int .i64 a, .int .i64 b, .int .i64 c, .int .u64 v] 52
  nb : Blk V nb #[.slice (some ⟨z.pb, 0, none⟩) z.ps.length z.ps.length, .slice (some ⟨z.sb, 0, none⟩) z.ss.length z.ss.length] 97

theorem gx_make {w : World} {g : Nat} {vN : Value} {hA : Option Addr} {hc : Nat} {nd : List Nd} {hs : List Int} {lg : Int} (h : IsG w g vN hA hc nd hs lg) (k a b c v : Int) (z : Nd) :
    Gx w ((w.alloc (stB k a b c v)).alloc (.cells #[.slice (some ⟨z.pb, 0, none⟩) z.ps.length z.ps.length, .slice (some ⟨z.sb, 0, none⟩) z.ss.length z.ss.length] 97)).drew g vN hA hc nd hs lg w.heap.size (w.alloc (stB k a b c v)).heap.size k a b c v z := by
  have b1 : Below w.heap.size w (w.alloc (stB k a b c v)) := (Below.refl _ _).alloc (Nat.le_refl _) _
  have b2 := (Below.refl (w.alloc (stB k a b c v)).heap.size (w.alloc (stB k a b c v))).alloc (Nat.le_refl _) (.cells #[.slice (some ⟨z.pb, 0, none⟩) z.ps.length z.ps.length, .slice (some ⟨z.sb, 0, none⟩) z.ss.length z.ss.length] 97)
  have b3 := below_trans (below_trans b1 b2) (below_drew _)
  exact ⟨h.keep b3, b3, ((Blk.new w _ _).keep b2).drew, (Blk.new _ _ _).drew⟩

/-- A handle that holds an object. -/
theorem wrong_zero {G : Gr} {b : Int} (hw : G.wrong b = 0) : G.has b = true ∧ G.held b ≠ 0 := by
  unfold Gr.wrong at hw
  split at hw
  · rename_i hh
    refine ⟨hh, fun e => ?_⟩
    rw [if_pos e] at hw
    cases hw
  · cases hw

theorem two_set {nd : List Nd} {ns : List (List Int × List Int)} (e : ns = nd.map Nd.two) (i : Nat) (y : Nd) : ns.set i (y.ps, y.ss) = (nd.set i y).map Nd.two := by
  rw [e, List.map_set]; rfl
end Go.Proofs.YtkefmiekomdkeaaGreat

/- The statements' do: an entry of a script, by whatever the core's call comes to. -/
namespace Go.Proofs.YtkefmiekomdkeaaGreat
open Go.RowKit

/-- Where do stands ahead of the call: the entry and two answers lie in boxes. -/
abbrev doW (w : World) (k a b c v : Int) : World := ((w.alloc (stB k a b c v)).alloc anB).alloc anB
abbrev anL : Array Value := #[.int .i64 0, .bool false, .int .i64 0, .int .u64 0]

theorem doW_below (w : World) (k a b c v : Int) : Below w.heap.size w (doW w k a b c v) := (((Below.refl _ w).alloc (Nat.le_refl _) _).alloc (by simp) _).alloc (by simp; omega) _
theorem doW_size (w : World) (k a b c v : Int) : (doW w k a b c v).heap.size = w.heap.size + 3 := by simp
theorem doW_boxes (w : World) (k a b c v : Int) : Blk (doW w k a b c v) (w.heap.size + 1) anL 54 ∧ Blk (doW w k a b c v) (w.heap.size + 2) anL 54 :=
  ⟨by simpa using (Blk.new (w.alloc (stB k a b c v)) anL 54).alloc anB, by simpa using Blk.new ((w.alloc (stB k a b c v)).alloc anB) anL 54⟩

/-- The call leaves the answers' boxes as they are. -/
def Leaves (w : World) (R : World → Prop) : Prop := ∀ w', R w' → Blk w' (w.heap.size + 1) anL 54 ∧ Blk w' (w.heap.size + 2) anL 54

/-- What stands behind do: the answers' boxes have been written to since. -/
def DoE (w : World) (R : World → Prop) (w' : World) : Prop := ∃ w4, R w4 ∧ Frm (fun k => k = w.heap.size + 1 ∨ k = w.heap.size + 2) w4 w'

theorem Blk.four {w : World} {b : Nat} {t : TypeId} {v0 v1 v2 v3 : Value} (h : Blk w b #[v0, v1, v2, v3] t) :
    w.cell? ⟨b, 0, none⟩ = some v0 ∧ w.cell? ⟨b, 1, none⟩ = some v1 ∧ w.cell? ⟨b, 2, none⟩ = some v2 ∧ w.cell? ⟨b, 3, none⟩ = some v3 ∧ (∀ i, w.frozen? ⟨b, i, none⟩ = false) := ⟨h.cell 0, h.cell 1, h.cell 2, h.cell 3, h.frozen⟩

theorem frm_cell {T : Nat → Prop} {w w' : World} (f : Frm T w w') (b i : Nat) (hb : T b) (v : Value) : Frm T w (w'.setCell ⟨b, i, none⟩ v) := f.setCell (p := ⟨b, i, none⟩) (fun _ => hb) v

set_option maxHeartbeats 4000000 in
set_option maxRecDepth 100000 in
theorem do_Make {pv : Value} (a b c v : Int) (E : Int) (w : World) (R : World → Prop) (hl : Leaves w R)
    (H : Calls Tryz.prog 27 #[pv, .int .i64 a, .int .i64 b, .int .i64 c] (doW w 1 a b c v) fun e w' => e = .returned (.int .i64 E) ∧ R w') :
    Calls Tryz.prog 20 #[pv, sgV 1 a b c v] w fun e w' => e = .returned (anV E false 0 0) ∧ DoE w R w' := by
  have H := Lib.hid H
  have HL := Lib.hid hl
  clear hl
  go_enter Tryz.func20, Tryz.ntmps20
  go_wp2_with fail
  refine H.out.mono ?_
  rintro e w4 ⟨rfl, r⟩
  have x := HL.out _ r
  obtain ⟨c0, c1, c2, c3, cf⟩ := x.1.four
  obtain ⟨d0, d1, d2, d3, df⟩ := x.2.four
  have HR := Lib.hid r
  have HX := Lib.hid x
  clear r x H HL
  go_wp2
  refine bodyPost_ret (v := anV E false 0 0) (by simp [results, Tryz.results20, go_sem, c0, c1, c2, c3]) rfl ⟨rfl, _, HR.out, ?_⟩
  refine frm_cell (frm_cell (frm_cell (frm_cell ?_ _ _ (.inl rfl) _) _ _ (.inl rfl) _) _ _ (.inl rfl) _) _ _ (.inl rfl) _
  exact frm_cell (Frm.refl _ _) _ _ (.inr rfl) _

set_option maxHeartbeats 4000000 in
set_option maxRecDepth 100000 in
theorem do_Get {pv : Value} (a b c v : Int) (E : Int) (w : World) (R : World → Prop) (hl : Leaves w R)
    (H : Calls Tryz.prog 29 #[pv, .int .i64 a, .int .i64 b, .int .i64 c] (doW w 2 a b c v) fun e w' => e = .returned (.int .i64 E) ∧ R w') :
    Calls Tryz.prog 20 #[pv, sgV 2 a b c v] w fun e w' => e = .returned (anV E false 0 0) ∧ DoE w R w' := by
  have H := Lib.hid H
  have HL := Lib.hid hl
  clear hl
  go_enter Tryz.func20, Tryz.ntmps20
  go_wp2_with fail
  refine H.out.mono ?_
  rintro e w4 ⟨rfl, r⟩
  have x := HL.out _ r
  obtain ⟨c0, c1, c2, c3, cf⟩ := x.1.four
  obtain ⟨d0, d1, d2, d3, df⟩ := x.2.four
  have HR := Lib.hid r
  have HX := Lib.hid x
  clear r x H HL
  go_wp2
  refine bodyPost_ret (v := anV E false 0 0) (by simp [results, Tryz.results20, go_sem, c0, c1, c2, c3]) rfl ⟨rfl, _, HR.out, ?_⟩
  refine frm_cell (frm_cell (frm_cell (frm_cell ?_ _ _ (.inl rfl) _) _ _ (.inl rfl) _) _ _ (.inl rfl) _) _ _ (.inl rfl) _
  exact frm_cell (Frm.refl _ _) _ _ (.inr rfl) _

set_option maxHeartbeats 4000000 in
set_option maxRecDepth 100000 in
theorem do_Set {pv : Value} (a b c v : Int) (E : Int) (w : World) (R : World → Prop) (hl : Leaves w R)
    (H : Calls Tryz.prog 35 #[pv, .int .i64 a, .int .i64 b, .int .i64 c] (doW w 3 a b c v) fun e w' => e = .returned (.int .i64 E) ∧ R w') :
    Calls Tryz.prog 20 #[pv, sgV 3 a b c v] w fun e w' => e = .returned (anV E false 0 0) ∧ DoE w R w' := by
  have H := Lib.hid H
  have HL := Lib.hid hl
  clear hl
  go_enter Tryz.func20, Tryz.ntmps20
  go_wp2_with fail
  refine H.out.mono ?_
  rintro e w4 ⟨rfl, r⟩
  have x := HL.out _ r
  obtain ⟨c0, c1, c2, c3, cf⟩ := x.1.four
  obtain ⟨d0, d1, d2, d3, df⟩ := x.2.four
  have HR := Lib.hid r
  have HX := Lib.hid x
  clear r x H HL
  go_wp2
  refine bodyPost_ret (v := anV E false 0 0) (by simp [results, Tryz.results20, go_sem, c0, c1, c2, c3]) rfl ⟨rfl, _, HR.out, ?_⟩
  refine frm_cell (frm_cell (frm_cell (frm_cell ?_ _ _ (.inl rfl) _) _ _ (.inl rfl) _) _ _ (.inl rfl) _) _ _ (.inl rfl) _
  exact frm_cell (Frm.refl _ _) _ _ (.inr rfl) _

set_option maxHeartbeats 4000000 in
set_option maxRecDepth 100000 in
theorem do_Write {pv : Value} (a b c v : Int) (E : Int) (w : World) (R : World → Prop) (hl : Leaves w R)
    (H : Calls Tryz.prog 34 #[pv, .int .i64 a, .int .i64 b, .int .u64 v] (doW w 5 a b c v) fun e w' => e = .returned (.int .i64 E) ∧ R w') :
    Calls Tryz.prog 20 #[pv, sgV 5 a b c v] w fun e w' => e = .returned (anV E false 0 0) ∧ DoE w R w' := by
  have H := Lib.hid H
  have HL := Lib.hid hl
  clear hl
  go_enter Tryz.func20, Tryz.ntmps20
  go_wp2_with fail
  refine H.out.mono ?_
  rintro e w4 ⟨rfl, r⟩
  have x := HL.out _ r
  obtain ⟨c0, c1, c2, c3, cf⟩ := x.1.four
  obtain ⟨d0, d1, d2, d3, df⟩ := x.2.four
  have HR := Lib.hid r
  have HX := Lib.hid x
  clear r x H HL
  go_wp2
  refine bodyPost_ret (v := anV E false 0 0) (by simp [results, Tryz.results20, go_sem, c0, c1, c2, c3]) rfl ⟨rfl, _, HR.out, ?_⟩
  refine frm_cell (frm_cell (frm_cell (frm_cell ?_ _ _ (.inl rfl) _) _ _ (.inl rfl) _) _ _ (.inl rfl) _) _ _ (.inl rfl) _
  exact frm_cell (Frm.refl _ _) _ _ (.inr rfl) _

set_option maxHeartbeats 4000000 in
set_option maxRecDepth 100000 in
theorem do_Clear {pv : Value} (a b c v : Int) (E : Int) (w : World) (R : World → Prop) (hl : Leaves w R)
    (H : Calls Tryz.prog 38 #[pv, .int .i64 a] (doW w 6 a b c v) fun e w' => e = .returned (.int .i64 E) ∧ R w') :
    Calls Tryz.prog 20 #[pv, sgV 6 a b c v] w fun e w' => e = .returned (anV E false 0 0) ∧ DoE w R w' := by
  have H := Lib.hid H
  have HL := Lib.hid hl
  clear hl
  go_enter Tryz.func20, Tryz.ntmps20
  go_wp2_with fail
  refine H.out.mono ?_
  rintro e w4 ⟨rfl, r⟩
  have x := HL.out _ r
  obtain ⟨c0, c1, c2, c3, cf⟩ := x.1.four
  obtain ⟨d0, d1, d2, d3, df⟩ := x.2.four
  have HR := Lib.hid r
  have HX := Lib.hid x
  clear r x H HL
  go_wp2
  refine bodyPost_ret (v := anV E false 0 0) (by simp [results, Tryz.results20, go_sem, c0, c1, c2, c3]) rfl ⟨rfl, _, HR.out, ?_⟩
  refine frm_cell (frm_cell (frm_cell (frm_cell ?_ _ _ (.inl rfl) _) _ _ (.inl rfl) _) _ _ (.inl rfl) _) _ _ (.inl rfl) _
  exact frm_cell (Frm.refl _ _) _ _ (.inr rfl) _

set_option maxHeartbeats 4000000 in
set_option maxRecDepth 100000 in
theorem do_Copy {pv : Value} (a b c v : Int) (E : Int) (w : World) (R : World → Prop) (hl : Leaves w R)
    (H : Calls Tryz.prog 36 #[pv, .int .i64 a, .int .i64 b] (doW w 7 a b c v) fun e w' => e = .returned (.int .i64 E) ∧ R w') :
    Calls Tryz.prog 20 #[pv, sgV 7 a b c v] w fun e w' => e = .returned (anV E false 0 0) ∧ DoE w R w' := by
  have H := Lib.hid H
  have HL := Lib.hid hl
  clear hl
  go_enter Tryz.func20, Tryz.ntmps20
  go_wp2_with fail
  refine H.out.mono ?_
  rintro e w4 ⟨rfl, r⟩
  have x := HL.out _ r
  obtain ⟨c0, c1, c2, c3, cf⟩ := x.1.four
  obtain ⟨d0, d1, d2, d3, df⟩ := x.2.four
  have HR := Lib.hid r
  have HX := Lib.hid x
  clear r x H HL
  go_wp2
  refine bodyPost_ret (v := anV E false 0 0) (by simp [results, Tryz.results20, go_sem, c0, c1, c2, c3]) rfl ⟨rfl, _, HR.out, ?_⟩
  refine frm_cell (frm_cell (frm_cell (frm_cell ?_ _ _ (.inl rfl) _) _ _ (.inl rfl) _) _ _ (.inl rfl) _) _ _ (.inl rfl) _
  exact frm_cell (Frm.refl _ _) _ _ (.inr rfl) _

set_option maxHeartbeats 4000000 in
set_option maxRecDepth 100000 in
theorem do_Read {pv : Value} (a b c v : Int) (E V : Int) (w : World) (R : World → Prop) (hl : Leaves w R)
    (H : Calls Tryz.prog 31 #[pv, .int .i64 a, .int .i64 b] (doW w 4 a b c v) fun e w' => e = .returned (.tuple #[.int .u64 V, .int .i64 E]) ∧ R w') :
    Calls Tryz.prog 20 #[pv, sgV 4 a b c v] w fun e w' => e = .returned (anV E false 0 V) ∧ DoE w R w' := by
  have H := Lib.hid H
  have HL := Lib.hid hl
  clear hl
  go_enter Tryz.func20, Tryz.ntmps20
  go_wp2_with fail
  refine H.out.mono ?_
  rintro e w4 ⟨rfl, r⟩
  have x := HL.out _ r
  obtain ⟨c0, c1, c2, c3, cf⟩ := x.1.four
  obtain ⟨d0, d1, d2, d3, df⟩ := x.2.four
  have HR := Lib.hid r
  have HX := Lib.hid x
  clear r x H HL
  go_wp2
  refine bodyPost_ret (v := anV E false 0 V) (by simp [results, Tryz.results20, go_sem, c0, c1, c2, c3]) rfl ⟨rfl, _, HR.out, ?_⟩
  refine frm_cell (frm_cell (frm_cell (frm_cell ?_ _ _ (.inl rfl) _) _ _ (.inl rfl) _) _ _ (.inl rfl) _) _ _ (.inl rfl) _
  exact frm_cell (frm_cell (Frm.refl _ _) _ _ (.inr rfl) _) _ _ (.inr rfl) _

set_option maxHeartbeats 4000000 in
set_option maxRecDepth 100000 in
theorem do_Same {pv : Value} (a b c v : Int) (E : Int) (y : Bool) (w : World) (R : World → Prop) (hl : Leaves w R)
    (H : Calls Tryz.prog 37 #[pv, .int .i64 a, .int .i64 b] (doW w 8 a b c v) fun e w' => e = .returned (.tuple #[.bool y, .int .i64 E]) ∧ R w') :
    Calls Tryz.prog 20 #[pv, sgV 8 a b c v] w fun e w' => e = .returned (anV E y 0 0) ∧ DoE w R w' := by
  have H := Lib.hid H
  have HL := Lib.hid hl
  clear hl
  go_enter Tryz.func20, Tryz.ntmps20
  go_wp2_with fail
  refine H.out.mono ?_
  rintro e w4 ⟨rfl, r⟩
  have x := HL.out _ r
  obtain ⟨c0, c1, c2, c3, cf⟩ := x.1.four
  obtain ⟨d0, d1, d2, d3, df⟩ := x.2.four
  have HR := Lib.hid r
  have HX := Lib.hid x
  clear r x H HL
  go_wp2
  refine bodyPost_ret (v := anV E y 0 0) (by simp [results, Tryz.results20, go_sem, c0, c1, c2, c3]) rfl ⟨rfl, _, HR.out, ?_⟩
  refine frm_cell (frm_cell (frm_cell (frm_cell ?_ _ _ (.inl rfl) _) _ _ (.inl rfl) _) _ _ (.inl rfl) _) _ _ (.inl rfl) _
  exact frm_cell (frm_cell (Frm.refl _ _) _ _ (.inr rfl) _) _ _ (.inr rfl) _

set_option maxHeartbeats 4000000 in
set_option maxRecDepth 100000 in
theorem do_Nil {pv : Value} (a b c v : Int) (E : Int) (y : Bool) (w : World) (R : World → Prop) (hl : Leaves w R)
    (H : Calls Tryz.prog 30 #[pv, .int .i64 a] (doW w 9 a b c v) fun e w' => e = .returned (.tuple #[.bool y, .int .i64 E]) ∧ R w') :
    Calls Tryz.prog 20 #[pv, sgV 9 a b c v] w fun e w' => e = .returned (anV E y 0 0) ∧ DoE w R w' := by
  have H := Lib.hid H
  have HL := Lib.hid hl
  clear hl
  go_enter Tryz.func20, Tryz.ntmps20
  go_wp2_with fail
  refine H.out.mono ?_
  rintro e w4 ⟨rfl, r⟩
  have x := HL.out _ r
  obtain ⟨c0, c1, c2, c3, cf⟩ := x.1.four
  obtain ⟨d0, d1, d2, d3, df⟩ := x.2.four
  have HR := Lib.hid r
  have HX := Lib.hid x
  clear r x H HL
  go_wp2
  refine bodyPost_ret (v := anV E y 0 0) (by simp [results, Tryz.results20, go_sem, c0, c1, c2, c3]) rfl ⟨rfl, _, HR.out, ?_⟩
  refine frm_cell (frm_cell (frm_cell (frm_cell ?_ _ _ (.inl rfl) _) _ _ (.inl rfl) _) _ _ (.inl rfl) _) _ _ (.inl rfl) _
  exact frm_cell (frm_cell (Frm.refl _ _) _ _ (.inr rfl) _) _ _ (.inr rfl) _

set_option maxHeartbeats 4000000 in
set_option maxRecDepth 100000 in
theorem do_Shape {pv : Value} (a b c v : Int) (E p q : Int) (q0 : 0 ≤ q) (q1 : q ≤ 100000) (w : World) (R : World → Prop) (hl : Leaves w R)
    (H : Calls Tryz.prog 28 #[pv, .int .i64 a] (doW w 10 a b c v) fun e w' => e = .returned (.tuple #[.int .i64 p, .int .i64 q, .int .i64 E]) ∧ R w') :
    Calls Tryz.prog 20 #[pv, sgV 10 a b c v] w fun e w' => e = .returned (anV E false p q) ∧ DoE w R w' := by
  have H := Lib.hid H
  have HL := Lib.hid hl
  clear hl
  have hw : IntKind.u64.wrap q = q := by unfold IntKind.wrap IntKind.bits; simp; omega
  go_enter Tryz.func20, Tryz.ntmps20
  go_wp2_with fail
  refine H.out.mono ?_
  rintro e w4 ⟨rfl, r⟩
  have x := HL.out _ r
  obtain ⟨c0, c1, c2, c3, cf⟩ := x.1.four
  obtain ⟨d0, d1, d2, d3, df⟩ := x.2.four
  have HR := Lib.hid r
  have HX := Lib.hid x
  clear r x H HL
  go_wp2
  refine bodyPost_ret (v := anV E false p q) (by simp [results, Tryz.results20, go_sem, c0, c1, c2, c3]) rfl ⟨rfl, _, HR.out, ?_⟩
  refine frm_cell (frm_cell (frm_cell (frm_cell ?_ _ _ (.inl rfl) _) _ _ (.inl rfl) _) _ _ (.inl rfl) _) _ _ (.inl rfl) _
  exact frm_cell (frm_cell (frm_cell (Frm.refl _ _) _ _ (.inr rfl) _) _ _ (.inr rfl) _) _ _ (.inr rfl) _

set_option maxHeartbeats 4000000 in
set_option maxRecDepth 100000 in
theorem do_other {pv : Value} (k a b c v : Int) (hk : k < 1 ∨ 10 < k) (w : World) :
    Calls Tryz.prog 20 #[pv, sgV k a b c v] w fun e w' => e = .returned (anV 0 false 0 0) ∧ Below w.heap.size w w' := by
  have k1 : ¬ k = 1 := by omega
  have k2 : ¬ k = 2 := by omega
  have k3 : ¬ k = 3 := by omega
  have k4 : ¬ k = 4 := by omega
  have k5 : ¬ k = 5 := by omega
  have k6 : ¬ k = 6 := by omega
  have k7 : ¬ k = 7 := by omega
  have k8 : ¬ k = 8 := by omega
  have k9 : ¬ k = 9 := by omega
  have k10 : ¬ k = 10 := by omega
  have BW := Lib.hid (doW_below w k a b c v)
  clear hk
  go_enter Tryz.func20, Tryz.ntmps20
  go_wp2
  exact bodyPost_ret (v := anV 0 false 0 0) (by simp [results, Tryz.results20, go_sem]) rfl ⟨rfl, BW.out⟩

end Go.Proofs.YtkefmiekomdkeaaGreat

/- An entry of a script, done by a core: what it answers, and which graph the core holds then. -/
namespace Go.Proofs.YtkefmiekomdkeaaGreat
open Go.RowKit

/-- What an entry is answered, and which graph there is behind it. -/
def doA (nu : Int) (G : Gr) (k a p q v : Int) : Int × Bool × Int × Int :=
  if k = 1 ∨ k = 2 ∨ k = 3 ∨ k = 5 ∨ k = 6 ∨ k = 7 then (stE nu G k a p q v, false, 0, 0)
  else if k = 4 ∨ k = 8 ∨ k = 9 ∨ k = 10 then G.ask k a p else (0, false, 0, 0)
def doG (nu : Int) (G : Gr) (k a p q v : Int) : Gr :=
  if k = 1 ∨ k = 2 ∨ k = 3 ∨ k = 5 ∨ k = 6 ∨ k = 7 then stG nu G k a p q v else G

abbrev anOf (x : Int × Bool × Int × Int) : Value := anV x.1 x.2.1 x.2.2.1 x.2.2.2

/-- Behind an entry: with an error the core holds what it held. -/
def KzP (w0 : World) (b : Nat) (s : Co) (G' : Gr) (E : Int) (Z : Nat → Prop) (w' : World) : Prop := ∃ s', Kz w0 w' Z b s' G' ∧ s'.cf = s.cf ∧ (E ≠ 0 → s' = s)

section
variable {w0 w w' : World} {Z : Nat → Prop} {b : Nat} {s : Co} {G G' : Gr} {k a p q v : Int}

theorem kz_do_of {P : Program} {m d : FuncId} {args dargs : Array Value} {M Eo : Ending → Prop} {E : Int} (h : Kz w0 w Z b s G)
    (D : ∀ R, Leaves w R → (Calls P m args (doW w k a p q v) fun e w' => M e ∧ R w') → Calls P d dargs w fun e w' => Eo e ∧ DoE w R w')
    (c : ∀ S, Cr (doW w k a p q v) b S s → Calls P m args (doW w k a p q v) fun e w' => M e ∧ Act13 (doW w k a p q v) b S s E G' w') :
    Calls P d dargs w fun e w' => Eo e ∧ KzP w0 b s G' E Z w' ∧ Kp Z w w' := by
  have bw := doW_below w k a p q v
  have hs := doW_size w k a p q v
  obtain ⟨x1, x2⟩ := doW_boxes w k a p q v
  have h1 : Kz w0 (doW w k a p q v) (fun j => Z j ∨ j = w.heap.size + 1 ∨ j = w.heap.size + 2) b s G := h.grow bw fun j hj => hj.imp id fun e => by rw [hs]; omega
  have hc := h1.act c
  generalize doW w k a p q v = W at *
  refine (D (fun w' => ∃ s', Kz w0 w' (fun j => Z j ∨ j = w.heap.size + 1 ∨ j = w.heap.size + 2) b s' G' ∧ Kp (fun j => Z j ∨ j = w.heap.size + 1 ∨ j = w.heap.size + 2) W w' ∧ s'.cf = s.cf ∧ (E ≠ 0 → s' = s))
    (fun w' hw => ?_) hc).mono fun e w' ⟨he, w4, hw, f⟩ => ?_
  · obtain ⟨s', _, kp, _⟩ := hw
    exact ⟨x1.kp kp (.inr (.inl rfl)), x2.kp kp (.inr (.inr rfl))⟩
  · obtain ⟨s', k', kp, e1, e2⟩ := hw
    refine ⟨he, ⟨s', k'.write f (fun j _ hj => .inr hj) (fun j hj => .inl (.inl hj)), e1, e2⟩, ?_⟩
    have q1 : Kp Z W w4 := kp.mono fun j _ hn hz => hn (.inl hz)
    have q2 : Kp Z w4 w' := f.mono fun j _ hj hz => by have := (h.low j hz).2; omega
    exact Kp.trans (Kp.of_below bw) (Kp.trans q1 q2)

/-- An entry. -/
theorem kz_do (h : Kz w0 w Z b s G) (k a p q v : Int) (q1 : q ≤ 9223372036854775807) :
    Calls Tryz.prog 20 #[ptr b, sgV k a p q v] w fun e w' => e = .returned (anOf (doA s.cf.nu G k a p q v)) ∧ KzP w0 b s (doG s.cf.nu G k a p q v) (doA s.cf.nu G k a p q v).1 Z w' ∧ Kp Z w w' := by
  by_cases hk : k < 1 ∨ 10 < k
  · have hA : doA s.cf.nu G k a p q v = (0, false, 0, 0) := by unfold doA; rw [if_neg (by omega), if_neg (by omega)]
    have hG : doG s.cf.nu G k a p q v = G := by unfold doG; rw [if_neg (by omega)]
    rw [hA, hG]
    exact (do_other k a p q v hk w).mono fun _ _ ⟨he, hb⟩ => ⟨he, ⟨s, h.keep hb, rfl, fun _ => rfl⟩, Kp.of_below hb⟩
  · have hk : k = 1 ∨ k = 2 ∨ k = 3 ∨ k = 4 ∨ k = 5 ∨ k = 6 ∨ k = 7 ∨ k = 8 ∨ k = 9 ∨ k = 10 := by omega
    rcases hk with rfl | rfl | rfl | rfl | rfl | rfl | rfl | rfl | rfl | rfl
    · have hA : doA s.cf.nu G 1 a p q v = (stE s.cf.nu G 1 a p q v, false, 0, 0) := rfl
      have hG : doG s.cf.nu G 1 a p q v = stG s.cf.nu G 1 a p q v := rfl
      rw [hA, hG]
      exact kz_do_of h (fun R hl H => do_Make a p q v _ w R hl H) fun S hC => make_rep hC h.rep a p q v q1
    · have hA : doA s.cf.nu G 2 a p q v = ((G.change 2 a p q v).1, false, 0, 0) := by rw [← stE_other (nu := s.cf.nu) (by omega)]; rfl
      have hG : doG s.cf.nu G 2 a p q v = (G.change 2 a p q v).2 := by rw [← stG_other (nu := s.cf.nu) (by omega)]; rfl
      rw [hA, hG]
      exact kz_do_of h (fun R hl H => do_Get a p q v _ w R hl H) fun S hC => get_rep hC h.rep a p q v
    · have hA : doA s.cf.nu G 3 a p q v = ((G.change 3 a p q v).1, false, 0, 0) := by rw [← stE_other (nu := s.cf.nu) (by omega)]; rfl
      have hG : doG s.cf.nu G 3 a p q v = (G.change 3 a p q v).2 := by rw [← stG_other (nu := s.cf.nu) (by omega)]; rfl
      rw [hA, hG]
      exact kz_do_of h (fun R hl H => do_Set a p q v _ w R hl H) fun S hC => set_rep hC h.rep a p q v
    · have hA : doA s.cf.nu G 4 a p q v = G.ask 4 a p := rfl
      have hG : doG s.cf.nu G 4 a p q v = G := rfl
      rw [hA, hG]
      have ha : (G.ask 4 a p).2.1 = false ∧ (G.ask 4 a p).2.2.1 = 0 := by
        unfold Gr.ask
        rw [if_pos rfl]
        split
        · split <;> exact ⟨rfl, rfl⟩
        · exact ⟨rfl, rfl⟩
      have := kz_do_of (E := (G.ask 4 a p).1) h (fun R hl H => do_Read a p q v (G.ask 4 a p).1 (G.ask 4 a p).2.2.2 w R hl H) fun S hC => (read_rep hC h.rep a p).mono fun _ _ ⟨h1, _, _, h2⟩ => ⟨h1, .same h.rep h2 _⟩
      unfold anOf
      rw [ha.1, ha.2]
      exact this
    · have hA : doA s.cf.nu G 5 a p q v = ((G.change 5 a p q v).1, false, 0, 0) := by rw [← stE_other (nu := s.cf.nu) (by omega)]; rfl
      have hG : doG s.cf.nu G 5 a p q v = (G.change 5 a p q v).2 := by rw [← stG_other (nu := s.cf.nu) (by omega)]; rfl
      rw [hA, hG]
      exact kz_do_of h (fun R hl H => do_Write a p q v _ w R hl H) fun S hC => write_rep hC h.rep a p q v
    · have hA : doA s.cf.nu G 6 a p q v = ((G.change 6 a p q v).1, false, 0, 0) := by rw [← stE_other (nu := s.cf.nu) (by omega)]; rfl
      have hG : doG s.cf.nu G 6 a p q v = (G.change 6 a p q v).2 := by rw [← stG_other (nu := s.cf.nu) (by omega)]; rfl
      rw [hA, hG]
      exact kz_do_of h (fun R hl H => do_Clear a p q v _ w R hl H) fun S hC => clear_rep hC h.rep a p q v
    · have hA : doA s.cf.nu G 7 a p q v = ((G.change 7 a p q v).1, false, 0, 0) := by rw [← stE_other (nu := s.cf.nu) (by omega)]; rfl
      have hG : doG s.cf.nu G 7 a p q v = (G.change 7 a p q v).2 := by rw [← stG_other (nu := s.cf.nu) (by omega)]; rfl
      rw [hA, hG]
      exact kz_do_of h (fun R hl H => do_Copy a p q v _ w R hl H) fun S hC => coCopy_rep hC h.rep a p q v
    · have hA : doA s.cf.nu G 8 a p q v = G.ask 8 a p := rfl
      have hG : doG s.cf.nu G 8 a p q v = G := rfl
      rw [hA, hG]
      have ha : (G.ask 8 a p).2.2 = (0, 0) := by
        unfold Gr.ask
        rw [if_neg (by omega), if_neg (by omega), if_pos rfl]
        split <;> rfl
      have := kz_do_of (E := (G.ask 8 a p).1) h (fun R hl H => do_Same a p q v (G.ask 8 a p).1 (G.ask 8 a p).2.1 w R hl H) fun S hC => (same_rep hC h.rep a p).mono fun _ _ ⟨h1, _, h2⟩ => ⟨h1, by subst h2; exact .same h.rep hC.same _⟩
      unfold anOf
      rw [ha]
      exact this
    · have hA : doA s.cf.nu G 9 a p q v = G.ask 9 a p := rfl
      have hG : doG s.cf.nu G 9 a p q v = G := rfl
      rw [hA, hG]
      have ha : (G.ask 9 a p).2.2 = (0, 0) := by
        unfold Gr.ask
        rw [if_neg (by omega), if_neg (by omega), if_neg (by omega), if_pos rfl]
        split <;> rfl
      have := kz_do_of (E := (G.ask 9 a p).1) h (fun R hl H => do_Nil a p q v (G.ask 9 a p).1 (G.ask 9 a p).2.1 w R hl H) fun S hC => (nil_rep hC h.rep a p).mono fun _ _ ⟨h1, _, h2⟩ => ⟨h1, by subst h2; exact .same h.rep hC.same _⟩
      unfold anOf
      rw [ha]
      exact this
    · have hA : doA s.cf.nu G 10 a p q v = G.ask 10 a p := rfl
      have hG : doG s.cf.nu G 10 a p q v = G := rfl
      rw [hA, hG]
      have ha : (G.ask 10 a p).2.1 = false ∧ 0 ≤ (G.ask 10 a p).2.2.2 ∧ (G.ask 10 a p).2.2.2 ≤ 100000 := by
        unfold Gr.ask
        rw [if_neg (by omega), if_pos rfl]
        by_cases kk : G.wrong a = 0
        · rw [if_pos kk]
          obtain ⟨e, z⟩ := Gr.wrong_zero kk
          have := h.rep.small _ (h.rep.mem e z)
          refine ⟨rfl, ?_, ?_⟩ <;> simp only <;> omega
        · rw [if_neg kk]; exact ⟨rfl, by simp, by simp⟩
      have := kz_do_of (E := (G.ask 10 a p).1) h (fun R hl H => do_Shape a p q v (G.ask 10 a p).1 (G.ask 10 a p).2.2.1 (G.ask 10 a p).2.2.2 ha.2.1 ha.2.2 w R hl H) fun S hC => (shape_rep hC h.rep a p).mono fun _ _ ⟨h1, _, h2⟩ => ⟨h1, .same h.rep h2 _⟩
      unfold anOf
      rw [ha.1]
      exact this

theorem kg_do {c : Cfg} (h : Kg w0 w Z b c G) (k a p q v : Int) (q1 : q ≤ 9223372036854775807) :
    Calls Tryz.prog 20 #[ptr b, sgV k a p q v] w fun e w' => e = .returned (anOf (doA c.nu G k a p q v)) ∧ Kg w0 w' Z b c (doG c.nu G k a p q v) ∧ Kp Z w w' := by
  obtain ⟨s, kz, rfl⟩ := h
  exact (kz_do kz k a p q v q1).mono fun _ _ ⟨he, ⟨s', k', e1, _⟩, kp⟩ => ⟨he, ⟨s', k', e1⟩, kp⟩
end
end Go.Proofs.YtkefmiekomdkeaaGreat

/- The walks of awake and of CoreNone. -/
namespace Go.Proofs.YtkefmiekomdkeaaGreat
open Go.RowKit

abbrev awC : Cfg := cfgOf 3 40 80 20
def aw0 : Gr := Gr.none_ awC
def aw1 : Gr := stG awC.nu aw0 1 0 1 2 0
def aw2 : Gr := stG awC.nu aw1 1 1 0 1 0
def aw3 : Gr := (aw2.change 3 0 0 1 0).2
def aw4 : Gr := (aw3.change 5 0 1 0 77).2
def aw5 : Gr := (aw4.change 2 2 0 0 0).2
theorem aw_1 : stE awC.nu aw0 1 0 1 2 0 = 0 := by decide
theorem aw_2 : stE awC.nu aw1 1 1 0 1 0 = 0 := by decide
theorem aw_3 : (aw2.change 3 0 0 1 0).1 = 0 := by decide
theorem aw_4 : (aw3.change 5 0 1 0 77).1 = 0 := by decide
theorem aw_5 : (aw4.change 2 2 0 0 0).1 = 0 := by decide
theorem aw_6 : aw5.ask 4 0 1 = (0, false, 0, 77) := by decide
theorem aw_7 : aw5.ask 8 1 2 = (0, true, 0, 0) := by decide
theorem aw_8 : aw5.ask 10 0 0 = (0, false, 1, 2) := by decide
theorem aw_9 : (aw5.change 3 0 1 1 0).1 = 5 := by decide
theorem aw_9' : (aw5.change 3 0 1 1 0).2 = aw5 := rfl
theorem aw_10 : (aw5.change 2 0 3 0 0).1 = 4 := by decide
theorem aw_10' : (aw5.change 2 0 3 0 0).2 = aw5 := rfl
theorem aw_11 : (aw5.change 6 99 0 0 0).1 = 3 := by decide
theorem aw_11' : (aw5.change 6 99 0 0 0).2 = aw5 := rfl
theorem aw_12 : (tot aw5.ns : Int) = 8 := by decide

theorem stat_young (a c d e f y o r : Int) (w : World) : (Instr.field 31 (stV8 a c d e f y o r) 5).run Tryz.prog w = .ok (.int .i64 y) w := by kernel_rfl

set_option maxHeartbeats 8000000 in
set_option maxRecDepth 100000 in
theorem awake13_walk (w : World) : Calls Tryz.prog 12 #[] w fun e w' => e = .returned (.bool true) ∧ Below w.heap.size w w' := by
  have by_ : ∀ n : Int, 0 ≤ n → n ≤ 255 → By n := fun n h0 h1 => ⟨h0, h1⟩
  have HM := Lib.hid (cfgOf_may 3 40 80 20 (by_ _ (by omega) (by omega)) (by_ _ (by omega) (by omega)) (by_ _ (by omega) (by omega)) (by_ _ (by omega) (by omega)))
  have HC := Lib.hid (config_any 3 40 80 20 (by_ _ (by omega) (by omega)) (by_ _ (by omega) (by omega)) (by_ _ (by omega) (by omega)) (by_ _ (by omega) (by omega)) w)
  clear by_
  go_enter Tryz.func12, Tryz.ntmps12
  go_wp2_with fail
  refine HC.out.mono ?_
  rintro e w1 ⟨rfl, b1⟩
  have HN := Lib.hid (kg_new (w0 := w) (Z := noZ) HM.out b1 (fun _ e => e.elim))
  clear b1 HC
  go_wp2_with fail
  refine HN.out.mono ?_
  rintro e w2 ⟨b, rfl, k2, _⟩
  have K2 := Lib.hid (show Kg w w2 noZ b awC aw0 from k2)
  clear k2 HN
  go_wp2_with fail
  have h := kg_make K2.out 0 1 2 (by omega)
  rw [aw_1] at h
  refine h.mono ?_
  rintro e w3 ⟨rfl, k3, _⟩
  have K3 := Lib.hid (show Kg w w3 noZ b awC aw1 from k3)
  clear k3 h K2
  go_wp2_with fail
  have h := kg_make K3.out 1 0 1 (by omega)
  rw [aw_2] at h
  refine h.mono ?_
  rintro e w4 ⟨rfl, k4, _⟩
  have K4 := Lib.hid (show Kg w w4 noZ b awC aw2 from k4)
  clear k4 h K3
  go_wp2_with fail
  have h := kg_set K4.out 0 0 1
  rw [aw_3] at h
  refine h.mono ?_
  rintro e w5 ⟨rfl, k5, _⟩
  have K5 := Lib.hid (show Kg w w5 noZ b awC aw3 from k5)
  clear k5 h K4
  go_wp2_with fail
  have h := kg_write K5.out 0 1 77
  rw [aw_4] at h
  refine h.mono ?_
  rintro e w6 ⟨rfl, k6, _⟩
  have K6 := Lib.hid (show Kg w w6 noZ b awC aw4 from k6)
  clear k6 h K5
  go_wp2_with fail
  have h := kg_get K6.out 2 0 0
  rw [aw_5] at h
  refine h.mono ?_
  rintro e w7 ⟨rfl, k7, _⟩
  have K7 := Lib.hid (show Kg w w7 noZ b awC aw5 from k7)
  clear k7 h K6
  go_wp2_with fail
  have h := kg_read K7.out 0 1
  rw [aw_6] at h
  refine h.mono ?_
  rintro e w8 ⟨rfl, k8, _⟩
  have K8 := Lib.hid k8
  clear k8 h K7
  go_wp2_with fail
  have h := kg_same K8.out 1 2
  rw [aw_7] at h
  refine h.mono ?_
  rintro e w9 ⟨rfl, rfl⟩
  clear h
  go_wp2_with fail
  have h := kg_shape K8.out 0
  rw [aw_8] at h
  refine h.mono ?_
  rintro e w10 ⟨rfl, k10, _⟩
  have K10 := Lib.hid k10
  clear k10 h K8
  go_wp2_with fail
  have h := kg_set K10.out 0 1 1
  rw [aw_9, aw_9'] at h
  refine h.mono ?_
  rintro e w11 ⟨rfl, k11, _⟩
  have K11 := Lib.hid k11
  clear k11 h K10
  go_wp2_with fail
  have h := kg_get K11.out 0 3 0
  rw [aw_10, aw_10'] at h
  refine h.mono ?_
  rintro e w12 ⟨rfl, k12, _⟩
  have K12 := Lib.hid k12
  clear k12 h K11
  go_wp2_with fail
  have h := kg_clear K12.out 99
  rw [aw_11, aw_11'] at h
  refine h.mono ?_
  rintro e w13 ⟨rfl, k13, _⟩
  have K13 := Lib.hid k13
  clear k13 h K12
  go_wp2_with fail
  have h := kg_stats K13.out
  rw [aw_12] at h
  generalize (aw5.ns.length : Int) = p at h
  generalize awC.ps * awC.pz = q at h
  refine h.mono ?_
  rintro e w14 ⟨rfl, b14⟩
  have B := Lib.hid (below_trans K13.out.bel b14)
  clear b14 h K13
  have hst := stat_young p 8 0 0 0 8 0 q w14
  go_wp2
  go_ret
  exact ⟨rfl, B.out⟩
end Go.Proofs.YtkefmiekomdkeaaGreat

/- A number as an argument fits its kind. -/
namespace Go.Proofs.YtkefmiekomdkeaaGreat

theorem bounds_int {k : IntKind} {n : Int} (h : (Lit.int k n).wf = true) : k.min ≤ n ∧ n ≤ k.max := by
  simpa [Lit.wf] using h
end Go.Proofs.YtkefmiekomdkeaaGreat

/- A slice of numbers of any kind as an argument, and as it is read later; a slice of structs as an argument. -/
namespace Go.Proofs.YtkefmiekomdkeaaGreat
open Go.RowKit Go.ChangeShapes Go.WideShapes Go.Deep

/-- A slice of numbers from lo to hi as it came in: nil let in. -/
def RdN (k : IntKind) (lo hi : Int) (w : World) (A : Option Addr) (n : Nat) : Prop :=
  ∀ i, i < n → ∃ ad x, A = some ad ∧ lo ≤ x ∧ x ≤ hi ∧ ∀ w', Below w.heap.size w w' → w'.cell? (ad.add i) = some (.int k x)

theorem open_nums {H : Type} {enc : TypeId × Value → H} {P : Program} {w : World} {r : Reach} {b0 : Nat} {t e : TypeId} {k : IntKind} {v : Value} {d : DataW H} {ps : List MemPlace} (lo hi : Int)
    (ht : P.underlying t = some (.slice e)) (he : P.underlying e = some (.int k)) (hc : P.cellsOf e = 1) (hlo : k.min = lo) (hhi : k.max = hi) (hv : Value.okWide P w r b0 t v) (h : DataW.Trod enc P w 0 (fun _ => true) true t v d ps) :
    ∃ A n c, v = .slice A n c ∧ n ≤ c ∧ c ≤ maxLen ∧ RdN k lo hi w A n := by
  obtain ⟨A, n, c, xs, rfl, nc, cm, rd, wf⟩ := open_rd ht he hc hv h
  refine ⟨A, n, c, rfl, nc, cm, fun i hi' => ?_⟩
  have hl := rd.1
  have hx : xs[i]? = some (xs[i]'(by omega)) := List.getElem?_eq_getElem (by omega)
  obtain ⟨ad, e, hb, hc⟩ := rd.2 i _ hx
  have k := bounds_int (wf _ (List.mem_of_getElem? hx))
  exact ⟨ad, _, e, by rw [← hlo]; exact k.1, by rw [← hhi]; exact k.2, fun w' hb' => (hb'.cell (p := ad.add i) (by rw [block_of_add]; exact hb)).trans hc⟩

section
variable {H : Type} {enc : TypeId × Value → H} {P : Program} {w : World} {base : Nat} {spare : Nat → Bool} {held : Bool}
/-- A slice of structs whose fields take one cell each: the cells of each, with each field's own reading. -/
theorem open_structs {r : Reach} {b0 : Nat} {t e : TypeId} {fs : Array Field} {v : Value} {d : DataW H} {ps : List MemPlace} (ht : P.underlying t = some (.slice e)) (he : P.underlying e = some (.struct fs))
    (hone : oneCellFields P fs = true) (hC : P.cellsOf e = fs.size) (hv : Value.okWide P w r b0 t v) (h : DataW.Trod enc P w base spare held t v d ps) :
    ∃ A n c, v = .slice A n c ∧ n ≤ c ∧ c ≤ maxLen ∧ ∀ i, i < n → ∃ a m, A = some a ∧ ∀ (j : Nat) (f : Field), fs[j]? = some f → ∃ (x : Value) (y : DataW H × List MemPlace), w.cell? (a.add (i * fs.size + j)) = some x ∧ DataW.trod enc P w base spare held m f.type [x] = some y := by
  obtain ⟨A, n, c, rfl⟩ := okWide_slice ht hv
  obtain ⟨fuel, hf⟩ := h
  rcases open_slice ht hf with ⟨h0, _⟩ | ⟨a, len, cap, m, nn, D, Pl, hcs, _, hl, hm, hmm, _, hi⟩
  · simp [Value.cells] at h0
    obtain ⟨rfl, rfl, rfl⟩ := h0
    exact ⟨none, 0, 0, rfl, Nat.le_refl _, Nat.zero_le _, fun i hi => absurd hi (by omega)⟩
  · simp [Value.cells] at hcs
    obtain ⟨rfl, rfl, rfl⟩ := hcs
    refine ⟨some a, n, c, rfl, hl, hm, fun i hin => ?_⟩
    have him : i < m := by rw [hmm]; split <;> omega
    obtain ⟨cs', hc, ht'⟩ := hi i him
    rw [hC] at hc
    obtain ⟨ys, n', _, _, hlen, hyl, hff⟩ := DataW.trod_struct he ht'
    obtain ⟨_, hcl, hat⟩ := World.cells?_some hc
    refine ⟨a, n', rfl, fun j f hj => ?_⟩
    obtain ⟨ho, hk⟩ := hone_of hone j f hj
    have hjl : j < fs.size := (Array.getElem?_eq_some_iff.1 hj).1
    have hcell := hat j hjl
    have hvj : cs'[j]? = some (cs'[j]'(by omega)) := List.getElem?_eq_getElem (by omega)
    have h1 := hff j f hj
    rw [ho, hk] at h1
    have hone' : (cs'.drop j).take 1 = [cs'[j]'(by omega)] := by
      rw [List.drop_eq_getElem_cons (by omega)]
      rfl
    rw [hone'] at h1
    have hys : ys[j]? = some (ys[j]'(by omega)) := List.getElem?_eq_getElem (by omega)
    exact ⟨_, _, by rw [← Go.Deep.add_add, hcell, hvj], h1.trans hys⟩
end

theorem add_more (a : Addr) (i j : Nat) (hj : j ≠ 0) : a.add (i + j) = ⟨(a.add i).block, (a.add i).off + j, none⟩ := by
  unfold Addr.add
  by_cases hi : i = 0
  · subst hi; simp [hj]
  · simp [hi, Nat.add_assoc]

/-- A slice of two numbers each, as it came in: nil let in. -/
def RdA (w : World) (A : Option Addr) (n : Nat) : Prop :=
  ∀ i, i < n → ∃ ad x0 x1, A = some ad ∧ -9223372036854775808 ≤ x1 ∧ x1 ≤ 9223372036854775807 ∧
    ∀ w', Below w.heap.size w w' → w'.cell? (ad.add (i * 2)) = some (.int .i64 x0) ∧ w'.cell? ⟨(ad.add (i * 2)).block, (ad.add (i * 2)).off + 1, none⟩ = some (.int .i64 x1)

theorem open_pairs {H : Type} {enc : TypeId × Value → H} {P : Program} {w : World} {base : Nat} {spare : Nat → Bool} {held : Bool} {r : Reach} {b0 : Nat} {t e ti : TypeId} {f0 f1 : Field} {v : Value} {d : DataW H} {p : List MemPlace}
    (ht : P.underlying t = some (.slice e)) (he : P.underlying e = some (.struct #[f0, f1])) (hone : oneCellFields P #[f0, f1] = true) (hC : P.cellsOf e = 2) (hi : P.underlying ti = some (.int .i64)) (h0 : f0.type = ti) (h1 : f1.type = ti)
    (hv : Value.okWide P w r b0 t v) (h : DataW.Trod enc P w base spare held t v d p) :
    ∃ A n c, v = .slice A n c ∧ n ≤ c ∧ c ≤ maxLen ∧ RdA w A n := by
  obtain ⟨A, n, c, rfl, hn, hc, hj⟩ := open_structs ht he hone hC hv h
  refine ⟨A, n, c, rfl, hn, hc, fun i hin => ?_⟩
  obtain ⟨a, m, rfl, hf⟩ := hj i hin
  obtain ⟨v0, y0, e0, t0⟩ := hf 0 f0 rfl
  obtain ⟨v1, y1, e1, t1⟩ := hf 1 f1 rfl
  obtain ⟨n0, k0, _, _⟩ := DataW.trod_int (by rw [h0]; exact hi) t0
  obtain ⟨n1, k1, _, w1⟩ := DataW.trod_int (by rw [h1]; exact hi) t1
  simp only [List.cons.injEq, and_true] at k0 k1
  subst k0 k1
  have kb : -9223372036854775808 ≤ n1 ∧ n1 ≤ 9223372036854775807 := bounds_int w1
  have hlt : a.block < w.heap.size := by have := cell_lt e0; rwa [block_of_add] at this
  change w.cell? (a.add (i * 2 + 0)) = _ at e0
  change w.cell? (a.add (i * 2 + 1)) = _ at e1
  rw [Nat.add_zero] at e0
  rw [add_more _ _ _ (by omega)] at e1
  have eb : (a.add (i * 2)).block = a.block := by unfold Addr.add; split <;> rfl
  exact ⟨a, n0, n1, rfl, kb.1, kb.2, fun w' hb => ⟨(hb.cell (p := a.add (i * 2)) (by rw [eb]; exact hlt)).trans e0, (hb.cell (p := ⟨(a.add (i * 2)).block, (a.add (i * 2)).off + 1, none⟩) (by rw [eb]; exact hlt)).trans e1⟩⟩
end Go.Proofs.YtkefmiekomdkeaaGreat

/- An entry of a script, and a slice of them, as arguments. -/
namespace Go.Proofs.YtkefmiekomdkeaaGreat
open Go.RowKit Go.ChangeShapes Go.WideShapes Go.Deep

/-- A number of the kind int. -/
def InI (n : Int) : Prop := -9223372036854775808 ≤ n ∧ n ≤ 9223372036854775807

set_option maxRecDepth 100000 in
theorem open_step {H : Type} {enc : TypeId × Value → H} {w : World} {base : Nat} {spare : Nat → Bool} {held : Bool} {r : Reach} {b0 : Nat} {v : Value} {d : DataW H} {p : List MemPlace}
    (hv : Value.okWide Tryz.prog w r b0 52 v) (h : DataW.Trod enc Tryz.prog w base spare held 52 v d p) :
    ∃ k a b c x : Int, v = sgV k a b c x ∧ InI b ∧ InI c := by
  obtain ⟨l, rfl, hl, m, hf⟩ := open_cells Tryz.underlying52 (by kernel_rfl) (by kernel_rfl) hv h
  obtain ⟨c0, y0, e0, t0⟩ := hf 0 _ rfl
  obtain ⟨c1, y1, e1, t1⟩ := hf 1 _ rfl
  obtain ⟨c2, y2, e2, t2⟩ := hf 2 _ rfl
  obtain ⟨c3, y3, e3, t3⟩ := hf 3 _ rfl
  obtain ⟨c4, y4, e4, t4⟩ := hf 4 _ rfl
  obtain ⟨n0, h0, _, _⟩ := DataW.trod_int Tryz.underlying3 t0
  obtain ⟨n1, h1, _, _⟩ := DataW.trod_int Tryz.underlying3 t1
  obtain ⟨n2, h2, _, w2⟩ := DataW.trod_int Tryz.underlying3 t2
  obtain ⟨n3, h3, _, w3⟩ := DataW.trod_int Tryz.underlying3 t3
  obtain ⟨n4, h4, _, _⟩ := DataW.trod_int Tryz.underlying50 t4
  simp only [List.cons.injEq, and_true] at h0 h1 h2 h3 h4
  subst h0 h1 h2 h3 h4
  refine ⟨n0, n1, n2, n3, n4, ?_, bounds_int w2, bounds_int w3⟩
  have hl5 : l.length = 5 := hl
  match l, hl5 with
  | [a0, a1, a2, a3, a4], _ =>
    simp at e0 e1 e2 e3 e4
    subst e0 e1 e2 e3 e4
    rfl

/-- A slice of entries as it came in: nil let in. -/
def RdSt (w : World) (A : Option Addr) (n : Nat) : Prop :=
  ∀ i, i < n → ∃ ad k a b c x, A = some ad ∧ InI b ∧ InI c ∧ ∀ w', Below w.heap.size w w' →
    w'.cell? (ad.add (i * 5)) = some (.int .i64 k) ∧ w'.cell? ⟨(ad.add (i * 5)).block, (ad.add (i * 5)).off + 1, none⟩ = some (.int .i64 a) ∧ w'.cell? ⟨(ad.add (i * 5)).block, (ad.add (i * 5)).off + 2, none⟩ = some (.int .i64 b) ∧
    w'.cell? ⟨(ad.add (i * 5)).block, (ad.add (i * 5)).off + 3, none⟩ = some (.int .i64 c) ∧ w'.cell? ⟨(ad.add (i * 5)).block, (ad.add (i * 5)).off + 4, none⟩ = some (.int .u64 x)

set_option maxRecDepth 100000 in
theorem open_steps {H : Type} {enc : TypeId × Value → H} {w : World} {base : Nat} {spare : Nat → Bool} {held : Bool} {r : Reach} {b0 : Nat} {v : Value} {d : DataW H} {p : List MemPlace}
    (hv : Value.okWide Tryz.prog w r b0 46 v) (h : DataW.Trod enc Tryz.prog w base spare held 46 v d p) :
    ∃ A n c, v = .slice A n c ∧ n ≤ c ∧ c ≤ maxLen ∧ RdSt w A n := by
  obtain ⟨A, n, c, rfl, hn, hc, hi⟩ := open_structs Tryz.underlying46 Tryz.underlying52 (by kernel_rfl) (by kernel_rfl) hv h
  refine ⟨A, n, c, rfl, hn, hc, fun i hin => ?_⟩
  obtain ⟨a, m, rfl, hf⟩ := hi i hin
  obtain ⟨v0, y0, e0, t0⟩ := hf 0 _ rfl
  obtain ⟨v1, y1, e1, t1⟩ := hf 1 _ rfl
  obtain ⟨v2, y2, e2, t2⟩ := hf 2 _ rfl
  obtain ⟨v3, y3, e3, t3⟩ := hf 3 _ rfl
  obtain ⟨v4, y4, e4, t4⟩ := hf 4 _ rfl
  obtain ⟨n0, h0, _, _⟩ := DataW.trod_int Tryz.underlying3 t0
  obtain ⟨n1, h1, _, _⟩ := DataW.trod_int Tryz.underlying3 t1
  obtain ⟨n2, h2, _, w2⟩ := DataW.trod_int Tryz.underlying3 t2
  obtain ⟨n3, h3, _, w3⟩ := DataW.trod_int Tryz.underlying3 t3
  obtain ⟨n4, h4, _, _⟩ := DataW.trod_int Tryz.underlying50 t4
  simp only [List.cons.injEq, and_true] at h0 h1 h2 h3 h4
  subst h0 h1 h2 h3 h4
  have hlt : a.block < w.heap.size := by have := cell_lt e0; rwa [block_of_add] at this
  change w.cell? (a.add (i * 5 + 0)) = _ at e0
  change w.cell? (a.add (i * 5 + 1)) = _ at e1
  change w.cell? (a.add (i * 5 + 2)) = _ at e2
  change w.cell? (a.add (i * 5 + 3)) = _ at e3
  change w.cell? (a.add (i * 5 + 4)) = _ at e4
  rw [Nat.add_zero] at e0
  rw [add_more _ _ _ (by omega)] at e1 e2 e3 e4
  have eb : (a.add (i * 5)).block = a.block := block_of_add _ _
  exact ⟨a, n0, n1, n2, n3, n4, rfl, bounds_int w2, bounds_int w3, fun w' hb => ⟨(hb.cell (p := a.add (i * 5)) (by rw [eb]; exact hlt)).trans e0,
    (hb.cell (p := ⟨(a.add (i * 5)).block, (a.add (i * 5)).off + 1, none⟩) (by rw [eb]; exact hlt)).trans e1, (hb.cell (p := ⟨(a.add (i * 5)).block, (a.add (i * 5)).off + 2, none⟩) (by rw [eb]; exact hlt)).trans e2,
    (hb.cell (p := ⟨(a.add (i * 5)).block, (a.add (i * 5)).off + 3, none⟩) (by rw [eb]; exact hlt)).trans e3, (hb.cell (p := ⟨(a.add (i * 5)).block, (a.add (i * 5)).off + 4, none⟩) (by rw [eb]; exact hlt)).trans e4⟩⟩
end Go.Proofs.YtkefmiekomdkeaaGreat

/- A configuration as an argument: its thirteen numbers, and that they fit their kind. -/
namespace Go.Proofs.YtkefmiekomdkeaaGreat
open Go.ChangeShapes Go.WideShapes Go.ChangeAt Go.RowKit Go.Deep

set_option maxRecDepth 100000 in
theorem open_conf {H : Type} {enc : TypeId × Value → H} {w : World} {base : Nat} {spare : Nat → Bool} {held : Bool} {r : Reach} {b0 : Nat} {v : Value} {d : DataW H} {p : List MemPlace}
    (hv : Value.okWide Tryz.prog w r b0 23 v) (h : DataW.Trod enc Tryz.prog w base spare held 23 v d p) :
    ∃ ha nu ps pz cd bf st tn lg mi ma na ja : Int, v = cfV ha nu ps pz cd bf st tn lg mi ma na ja := by
  obtain ⟨l, rfl, hl, m, hf⟩ := open_cells Tryz.underlying23 (by kernel_rfl) (by kernel_rfl) hv h
  obtain ⟨c0, y0, e0, t0⟩ := hf 0 _ rfl
  obtain ⟨c1, y1, e1, t1⟩ := hf 1 _ rfl
  obtain ⟨c2, y2, e2, t2⟩ := hf 2 _ rfl
  obtain ⟨c3, y3, e3, t3⟩ := hf 3 _ rfl
  obtain ⟨c4, y4, e4, t4⟩ := hf 4 _ rfl
  obtain ⟨c5, y5, e5, t5⟩ := hf 5 _ rfl
  obtain ⟨c6, y6, e6, t6⟩ := hf 6 _ rfl
  obtain ⟨c7, y7, e7, t7⟩ := hf 7 _ rfl
  obtain ⟨c8, y8, e8, t8⟩ := hf 8 _ rfl
  obtain ⟨c9, y9, e9, t9⟩ := hf 9 _ rfl
  obtain ⟨c10, y10, e10, t10⟩ := hf 10 _ rfl
  obtain ⟨c11, y11, e11, t11⟩ := hf 11 _ rfl
  obtain ⟨c12, y12, e12, t12⟩ := hf 12 _ rfl
  obtain ⟨n0, h0, _, _⟩ := DataW.trod_int Tryz.underlying3 t0
  obtain ⟨n1, h1, _, _⟩ := DataW.trod_int Tryz.underlying3 t1
  obtain ⟨n2, h2, _, _⟩ := DataW.trod_int Tryz.underlying3 t2
  obtain ⟨n3, h3, _, _⟩ := DataW.trod_int Tryz.underlying3 t3
  obtain ⟨n4, h4, _, _⟩ := DataW.trod_int Tryz.underlying3 t4
  obtain ⟨n5, h5, _, _⟩ := DataW.trod_int Tryz.underlying3 t5
  obtain ⟨n6, h6, _, _⟩ := DataW.trod_int Tryz.underlying3 t6
  obtain ⟨n7, h7, _, _⟩ := DataW.trod_int Tryz.underlying3 t7
  obtain ⟨n8, h8, _, _⟩ := DataW.trod_int Tryz.underlying3 t8
  obtain ⟨n9, h9, _, _⟩ := DataW.trod_int Tryz.underlying3 t9
  obtain ⟨n10, h10, _, _⟩ := DataW.trod_int Tryz.underlying3 t10
  obtain ⟨n11, h11, _, _⟩ := DataW.trod_int Tryz.underlying3 t11
  obtain ⟨n12, h12, _, _⟩ := DataW.trod_int Tryz.underlying3 t12
  simp only [List.cons.injEq, and_true] at h0 h1 h2 h3 h4 h5 h6 h7 h8 h9 h10 h11 h12
  subst h0 h1 h2 h3 h4 h5 h6 h7 h8 h9 h10 h11 h12
  refine ⟨n0, n1, n2, n3, n4, n5, n6, n7, n8, n9, n10, n11, n12, ?_⟩
  have hl13 : l.length = 13 := hl
  match l, hl13 with
  | [a0, a1, a2, a3, a4, a5, a6, a7, a8, a9, a10, a11, a12], _ =>
    simp at e0 e1 e2 e3 e4 e5 e6 e7 e8 e9 e10 e11 e12
    subst e0 e1 e2 e3 e4 e5 e6 e7 e8 e9 e10 e11 e12
    rfl
end Go.Proofs.YtkefmiekomdkeaaGreat
