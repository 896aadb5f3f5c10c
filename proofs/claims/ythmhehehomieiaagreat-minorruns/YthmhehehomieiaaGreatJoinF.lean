/- Texts of the layers below, joined: GuD MtC CoY CoZ CpB MdG MtD MtM MtE MtG MtH MtI MtJ MtN MtO. -/
import Derived.Test.YthmhehehomieiaaGreatJoinE
import Derived.Deep.RegionHeld3
import Derived.Deep.DeepCutAuto
import Derived.StillTailTactics

/- Entries, steps, acts hang on the core and its objects alone. -/
namespace Go.Proofs.YthmhehehomieiaaGreat
namespace Gc
section
variable {s t t' : Co} {A B B' : Hp}

theorem SetD.re {x q : Int} {o : Ob} {n : Nat} (m : SetD s A x o n q t B) (P : Pts) : SetD (s.re P) A x o n q (t.re P) B := by
  cases m with
  | plain h => exact .plain (s := s.re P) h
  | note h1 h2 m => exact .note (s := s.re P) h1 h2 (m.re P)
theorem SetD.one {x q : Int} {o : Ob} {n : Nat} (m : SetD s A x o n q t B) (k : SetD s A x o n q t' B') : t' = t ∧ B' = B := by
  cases m with
  | plain h =>
    cases k with
    | plain _ => exact ⟨rfl, rfl⟩
    | note h1 h2 _ => exact absurd h (fun z => z.elim (fun e => e h1) fun e => e h2)
  | note h1 h2 m =>
    cases k with
    | plain h => exact absurd h (fun z => z.elim (fun e => e h1) fun e => e h2)
    | note _ _ m' => exact m.one m'

theorem Ent.re {op : Op} {E : Int} (m : Ent s A op E t B) (P : Pts) : Ent (s.re P) A op E (t.re P) B := by
  cases m with
  | clear3 h => exact .clear3 (s := s.re P) h
  | clear h => exact .clear (s := s.re P) h
  | copy3 h => exact .copy3 (s := s.re P) h
  | copy h1 h2 => exact .copy (s := s.re P) h1 h2
  | write3 h => exact .write3 (s := s.re P) h
  | write4 h1 h2 => exact .write4 (s := s.re P) h1 h2
  | write5 h1 h2 h3 => exact .write5 (s := s.re P) h1 h2 h3
  | write h1 h2 h3 => exact .write (s := s.re P) h1 h2 h3
  | get3 h => exact .get3 (s := s.re P) h
  | get4 h1 h2 => exact .get4 (s := s.re P) h1 h2
  | getTo h1 h2 h3 => exact .getTo (s := s.re P) h1 h2 h3
  | get5 h1 h2 h3 h4 => exact .get5 (s := s.re P) h1 h2 h3 h4
  | get h1 h2 h3 h4 h5 m => exact .get (s := s.re P) h1 h2 h3 h4 h5 (m.re P)
  | set3 h => exact .set3 (s := s.re P) h
  | set4 h1 h2 => exact .set4 (s := s.re P) h1 h2
  | setTo h1 h2 h3 => exact .setTo (s := s.re P) h1 h2 h3
  | set5 h1 h2 h3 h4 => exact .set5 (s := s.re P) h1 h2 h3 h4
  | set h1 h2 h3 h4 d => exact .set (s := s.re P) h1 h2 h3 h4 (d.re P)
  | make3 h => exact .make3 (s := s.re P) h
  | make6 h1 h2 => exact .make6 (s := s.re P) h1 h2
  | make7 h1 h2 h3 h4 h5 => exact .make7 (s := s.re P) h1 h2 h3 h4 h5
  | make h1 h2 h3 h4 h5 => exact .make (s := s.re P) h1 h2 h3 h4 h5

theorem Ent.one {op : Op} {E E' : Int} (h0 : A.ob 0 = none) (m : Ent s A op E t B) (k : Ent s A op E' t' B') : E' = E ∧ t' = t ∧ B' = B := by
  have no : ∀ {x : Int} {o : Ob}, x = 0 → A.ob x = some o → False := fun e h => by rw [e, h0] at h; cases h
  cases m with
  | clear3 h => cases k with
    | clear3 _ => exact ⟨rfl, rfl, rfl⟩
    | clear h' => rw [h] at h'; cases h'
  | clear h => cases k with
    | clear3 h' => rw [h] at h'; cases h'
    | clear _ => exact ⟨rfl, rfl, rfl⟩
  | copy3 h => cases k with
    | copy3 _ => exact ⟨rfl, rfl, rfl⟩
    | copy h1 h2 => rcases h with z | z <;> simp_all
  | copy h1 h2 => cases k with
    | copy3 h => rcases h with z | z <;> simp_all
    | copy _ _ => exact ⟨rfl, rfl, rfl⟩
  | write3 h => cases k with
    | write3 _ => exact ⟨rfl, rfl, rfl⟩
    | write4 h' _ => rw [h] at h'; cases h'
    | write5 h' _ _ => rw [h] at h'; cases h'
    | write h' _ _ => rw [h] at h'; cases h'
  | write4 h e => cases k with
    | write3 h' => rw [h] at h'; cases h'
    | write4 _ _ => exact ⟨rfl, rfl, rfl⟩
    | write5 _ ho _ => exact (no e ho).elim
    | write _ ho _ => exact (no e ho).elim
  | write5 h ho hs => cases k with
    | write3 h' => rw [h] at h'; cases h'
    | write4 _ e => exact (no e ho).elim
    | write5 _ _ _ => exact ⟨rfl, rfl, rfl⟩
    | write _ ho' hs' => rw [ho] at ho'; cases ho'; rw [hs] at hs'; cases hs'
  | write h ho hs => cases k with
    | write3 h' => rw [h] at h'; cases h'
    | write4 _ e => exact (no e ho).elim
    | write5 _ ho' hs' => rw [ho] at ho'; cases ho'; rw [hs] at hs'; cases hs'
    | write _ ho' _ => rw [ho] at ho'; cases ho'; exact ⟨rfl, rfl, rfl⟩
  | get3 h => cases k with
    | get3 _ => exact ⟨rfl, rfl, rfl⟩
    | get4 h' _ => rw [h] at h'; cases h'
    | getTo h' _ _ => rw [h] at h'; cases h'
    | get5 h' _ _ _ => rw [h] at h'; cases h'
    | get h' _ _ _ _ _ => rw [h] at h'; cases h'
  | get4 h e => cases k with
    | get3 h' => rw [h] at h'; cases h'
    | get4 _ _ => exact ⟨rfl, rfl, rfl⟩
    | getTo _ ho _ => exact (no e ho).elim
    | get5 _ ho _ _ => exact (no e ho).elim
    | get _ ho _ _ _ _ => exact (no e ho).elim
  | getTo h ho hd => cases k with
    | get3 h' => rw [h] at h'; cases h'
    | get4 _ e => exact (no e ho).elim
    | getTo _ _ _ => exact ⟨rfl, rfl, rfl⟩
    | get5 _ _ hd' _ => rw [hd] at hd'; cases hd'
    | get _ _ hd' _ _ _ => rw [hd] at hd'; cases hd'
  | get5 h ho hd hr => cases k with
    | get3 h' => rw [h] at h'; cases h'
    | get4 _ e => exact (no e ho).elim
    | getTo _ _ hd' => rw [hd] at hd'; cases hd'
    | get5 _ _ _ _ => exact ⟨rfl, rfl, rfl⟩
    | get _ ho' _ hr' _ _ => rw [ho] at ho'; cases ho'; rw [hr] at hr'; cases hr'
  | get h ho hd hr hq m => cases k with
    | get3 h' => rw [h] at h'; cases h'
    | get4 _ e => exact (no e ho).elim
    | getTo _ _ hd' => rw [hd] at hd'; cases hd'
    | get5 _ ho' _ hr' => rw [ho] at ho'; cases ho'; rw [hr] at hr'; cases hr'
    | get _ ho' _ _ hq' m' =>
      rw [ho] at ho'; cases ho'
      rw [hq] at hq'; cases hq'
      obtain ⟨rfl, rfl, rfl⟩ := m.one m'
      exact ⟨rfl, rfl, rfl⟩
  | set3 h => cases k with
    | set3 _ => exact ⟨rfl, rfl, rfl⟩
    | set4 h' _ => rw [h] at h'; cases h'
    | setTo h' _ _ => rw [h] at h'; cases h'
    | set5 h' _ _ _ => rw [h] at h'; cases h'
    | set h' _ _ _ _ => rw [h] at h'; cases h'
  | set4 h e => cases k with
    | set3 h' => rw [h] at h'; cases h'
    | set4 _ _ => exact ⟨rfl, rfl, rfl⟩
    | setTo _ ho _ => exact (no e ho).elim
    | set5 _ ho _ _ => exact (no e ho).elim
    | set _ ho _ _ _ => exact (no e ho).elim
  | setTo h ho hd => cases k with
    | set3 h' => rw [h] at h'; cases h'
    | set4 _ e => exact (no e ho).elim
    | setTo _ _ _ => exact ⟨rfl, rfl, rfl⟩
    | set5 _ _ hd' _ => rw [hd] at hd'; cases hd'
    | set _ _ hd' _ _ => rw [hd] at hd'; cases hd'
  | set5 h ho hd hr => cases k with
    | set3 h' => rw [h] at h'; cases h'
    | set4 _ e => exact (no e ho).elim
    | setTo _ _ hd' => rw [hd] at hd'; cases hd'
    | set5 _ _ _ _ => exact ⟨rfl, rfl, rfl⟩
    | set _ ho' _ hr' _ => rw [ho] at ho'; cases ho'; rw [hr] at hr'; cases hr'
  | set h ho hd hr d => cases k with
    | set3 h' => rw [h] at h'; cases h'
    | set4 _ e => exact (no e ho).elim
    | setTo _ _ hd' => rw [hd] at hd'; cases hd'
    | set5 _ ho' _ hr' => rw [ho] at ho'; cases ho'; rw [hr] at hr'; cases hr'
    | set _ ho' _ _ d' =>
      rw [ho] at ho'; cases ho'
      obtain ⟨rfl, rfl⟩ := d.one d'
      exact ⟨rfl, rfl, rfl⟩
  | make3 h => cases k with
    | make3 _ => exact ⟨rfl, rfl, rfl⟩
    | make6 h' _ => rw [h] at h'; cases h'
    | make7 h' _ _ _ _ => rw [h] at h'; cases h'
    | make h' _ _ _ _ => rw [h] at h'; cases h'
  | make6 h e => cases k with
    | make3 h' => rw [h] at h'; cases h'
    | make6 _ _ => exact ⟨rfl, rfl, rfl⟩
    | make7 _ _ _ _ _ => omega
    | make _ _ _ _ _ => omega
  | make7 h h1 h2 h3 h4 => cases k with
    | make3 h' => rw [h] at h'; cases h'
    | make6 _ _ => omega
    | make7 _ _ _ _ _ => exact ⟨rfl, rfl, rfl⟩
    | make _ _ _ _ h4' => exact absurd h4' h4
  | make h h1 h2 h3 h4 => cases k with
    | make3 h' => rw [h] at h'; cases h'
    | make6 _ _ => omega
    | make7 _ _ _ _ h4' => exact absurd h4 h4'
    | make _ _ _ _ _ => exact ⟨rfl, rfl, rfl⟩

/-- Steps, one behind the other. -/
inductive StsD (s : Co) (A : Hp) : Nat → Co → Hp → Prop
  | zero : StsD s A 0 s A
  | succ {i : Nat} {t u : Co} {B C : Hp} {n : Int} {y : Bool} : StsD s A i t B → StepD t B u C n y → StsD s A (i + 1) u C
theorem StsD.re {i : Nat} (m : StsD s A i t B) (P : Pts) : StsD (s.re P) A i (t.re P) B := by
  induction m with
  | zero => exact .zero
  | succ _ d ih => exact .succ ih (d.re P)
theorem StsD.one {i : Nat} (m : StsD s A i t B) : ∀ {t' : Co} {B' : Hp}, StsD s A i t' B' → t' = t ∧ B' = B := by
  induction m with
  | zero => intro t' B' k; cases k; exact ⟨rfl, rfl⟩
  | succ _ d ih =>
    intro t' B' k
    cases k with
    | succ k1 d' =>
      obtain ⟨rfl, rfl⟩ := ih k1
      obtain ⟨rfl, rfl, _⟩ := d.one d'
      exact ⟨rfl, rfl⟩

/-- An act of the statements of stage 14. -/
def DoD (s : Co) (A : Hp) (k a p q : Int) (t : Co) (B : Hp) : Prop :=
  (k = 0 ∧ ∃ E, Ent s A (.make a p q) E t B) ∨ (k = 1 ∧ ∃ E, Ent s A (.get a p q) E t B) ∨ (k = 2 ∧ ∃ E, Ent s A (.set a p q) E t B) ∨ (k = 3 ∧ ∃ E, Ent s A (.write a p (IntKind.u64.wrap q)) E t B) ∨
  (k = 4 ∧ ∃ E, Ent s A (.clear a) E t B) ∨ (k = 5 ∧ ∃ E, Ent s A (.copy a p) E t B) ∨ (k = 6 ∧ StartD s A t B) ∨ ((k < 0 ∨ 6 < k) ∧ StsD s A (min a.toNat 20) t B)
theorem DoD.re {k a p q : Int} (m : DoD s A k a p q t B) (P : Pts) : DoD (s.re P) A k a p q (t.re P) B := by
  unfold DoD at m ⊢
  rcases m with ⟨e, E, m⟩ | ⟨e, E, m⟩ | ⟨e, E, m⟩ | ⟨e, E, m⟩ | ⟨e, E, m⟩ | ⟨e, E, m⟩ | ⟨e, m⟩ | ⟨e, m⟩
  · exact .inl ⟨e, E, m.re P⟩
  · exact .inr (.inl ⟨e, E, m.re P⟩)
  · exact .inr (.inr (.inl ⟨e, E, m.re P⟩))
  · exact .inr (.inr (.inr (.inl ⟨e, E, m.re P⟩)))
  · exact .inr (.inr (.inr (.inr (.inl ⟨e, E, m.re P⟩))))
  · exact .inr (.inr (.inr (.inr (.inr (.inl ⟨e, E, m.re P⟩)))))
  · exact .inr (.inr (.inr (.inr (.inr (.inr (.inl ⟨e, m.re P⟩))))))
  · exact .inr (.inr (.inr (.inr (.inr (.inr (.inr ⟨e, m.re P⟩))))))
theorem DoD.one {k a p q : Int} (h0 : A.ob 0 = none) (m : DoD s A k a p q t B) (m' : DoD s A k a p q t' B') : t' = t ∧ B' = B := by
  unfold DoD at m m'
  rcases m with ⟨e, E, m⟩ | ⟨e, E, m⟩ | ⟨e, E, m⟩ | ⟨e, E, m⟩ | ⟨e, E, m⟩ | ⟨e, E, m⟩ | ⟨e, m⟩ | ⟨e, m⟩ <;>
    rcases m' with ⟨e', E', m'⟩ | ⟨e', E', m'⟩ | ⟨e', E', m'⟩ | ⟨e', E', m'⟩ | ⟨e', E', m'⟩ | ⟨e', E', m'⟩ | ⟨e', m'⟩ | ⟨e', m'⟩ <;>
    first
      | (exfalso; omega)
      | exact (m.one h0 m').2
      | exact (Ent.one h0 m m').2
      | exact m.one m'
end
end Gc
end Go.Proofs.YthmhehehomieiaaGreat

/- Acts as an argument; the statements' do of stage 14. -/
namespace Go.Proofs.YthmhehehomieiaaGreat
open Go.RowKit Go.ChangeShapes Go.WideShapes Go.Deep

/-- A slice of acts as it came in: nil let in. -/
def RdAc (w : World) (A : Option Addr) (n : Nat) : Prop :=
  ∀ i, i < n → ∃ ad k a b c, A = some ad ∧ InI a ∧ InI b ∧ InI c ∧ ∀ w', Below w.heap.size w w' →
    w'.cell? (ad.add (i * 4)) = some (.int .i64 k) ∧ w'.cell? ⟨(ad.add (i * 4)).block, (ad.add (i * 4)).off + 1, none⟩ = some (.int .i64 a) ∧ w'.cell? ⟨(ad.add (i * 4)).block, (ad.add (i * 4)).off + 2, none⟩ = some (.int .i64 b) ∧
    w'.cell? ⟨(ad.add (i * 4)).block, (ad.add (i * 4)).off + 3, none⟩ = some (.int .i64 c)

set_option maxRecDepth 100000 in
theorem open_acts14 {H : Type} {enc : TypeId × Value → H} {w : World} {base : Nat} {spare : Nat → Bool} {held : Bool} {r : Reach} {b0 : Nat} {v : Value} {d : DataW H} {p : List MemPlace}
    (hv : Value.okWide Tryz.prog w r b0 78 v) (h : DataW.Trod enc Tryz.prog w base spare held 78 v d p) :
    ∃ A n c, v = .slice A n c ∧ n ≤ c ∧ c ≤ maxLen ∧ RdAc w A n := by
  obtain ⟨A, n, c, rfl, hn, hc, hi⟩ := open_structs Tryz.underlying78 Tryz.underlying80 (by kernel_rfl) (by kernel_rfl) hv h
  refine ⟨A, n, c, rfl, hn, hc, fun i hin => ?_⟩
  obtain ⟨a, m, rfl, hf⟩ := hi i hin
  obtain ⟨v0, y0, e0, t0⟩ := hf 0 _ rfl
  obtain ⟨v1, y1, e1, t1⟩ := hf 1 _ rfl
  obtain ⟨v2, y2, e2, t2⟩ := hf 2 _ rfl
  obtain ⟨v3, y3, e3, t3⟩ := hf 3 _ rfl
  obtain ⟨n0, h0, _, _⟩ := DataW.trod_int Tryz.underlying3 t0
  obtain ⟨n1, h1, _, w1⟩ := DataW.trod_int Tryz.underlying3 t1
  obtain ⟨n2, h2, _, w2⟩ := DataW.trod_int Tryz.underlying3 t2
  obtain ⟨n3, h3, _, w3⟩ := DataW.trod_int Tryz.underlying3 t3
  simp only [List.cons.injEq, and_true] at h0 h1 h2 h3
  subst h0 h1 h2 h3
  have hlt : a.block < w.heap.size := by have := cell_lt e0; rwa [block_of_add] at this
  change w.cell? (a.add (i * 4 + 0)) = _ at e0
  change w.cell? (a.add (i * 4 + 1)) = _ at e1
  change w.cell? (a.add (i * 4 + 2)) = _ at e2
  change w.cell? (a.add (i * 4 + 3)) = _ at e3
  rw [Nat.add_zero] at e0
  rw [add_more _ _ _ (by omega)] at e1 e2 e3
  have eb : (a.add (i * 4)).block = a.block := block_of_add _ _
  exact ⟨a, n0, n1, n2, n3, rfl, bounds_int w1, bounds_int w2, bounds_int w3, fun w' hb => ⟨(hb.cell (p := a.add (i * 4)) (by rw [eb]; exact hlt)).trans e0,
    (hb.cell (p := ⟨(a.add (i * 4)).block, (a.add (i * 4)).off + 1, none⟩) (by rw [eb]; exact hlt)).trans e1, (hb.cell (p := ⟨(a.add (i * 4)).block, (a.add (i * 4)).off + 2, none⟩) (by rw [eb]; exact hlt)).trans e2,
    (hb.cell (p := ⟨(a.add (i * 4)).block, (a.add (i * 4)).off + 3, none⟩) (by rw [eb]; exact hlt)).trans e3⟩⟩

abbrev acL (k a b c : Int) : Array Value := #[.int .i64 k, .int .i64 a, .int .i64 b, .int .i64 c]
abbrev acV (k a b c : Int) : Value := .agg (acL k a b c)
abbrev acB (k a b c : Int) : Obj := .cells (acL k a b c) 80

namespace Gc
/-- What was counted so far is little. -/
def Nb (n : Nat) (s : Co) : Prop := (0 ≤ s.d.al ∧ s.d.al ≤ n) ∧ (0 ≤ s.d.wd ∧ s.d.wd ≤ 66 * n) ∧ (0 ≤ s.d.mi ∧ s.d.mi ≤ 20 * n)
theorem Nb.few {n : Nat} {s : Co} (h : Nb n s) (hn : n ≤ 1000) : Few s := by unfold Nb at h; unfold Few; omega

/-- What an act comes to. -/
structure DoQ (s : Co) (A : Hp) (k : Int) (s' : Co) (B : Hp) : Prop where
  cyc : Cyc s' B
  cf : s'.cf = s.cf
  nb : ∀ n : Nat, n ≤ 1000 → Nb n s → Nb (n + 1) s'
  rep : k < 0 ∨ 6 ≤ k → ∀ G f, Rep A G f → ∃ f', Rep B G f'

section
variable {w0 w w' : World} {Z Z' : Nat → Prop} {b : Nat} {s s' : Co} {A B : Hp} {k : Int}

theorem ActQ.do_ {op : Op} {E : Int} (q : ActQ s A op E s' B) (hk : 0 ≤ k ∧ k < 6) : DoQ s A k s' B :=
  ⟨q.cyc, q.cf, fun n hn h => by obtain ⟨h1, h2, h3, h4, h5⟩ := q.adds; unfold Nb at h ⊢; omega, fun h => by omega⟩
theorem StartQ.do_ (q : StartQ s A s' B) : DoQ s A 6 s' B :=
  ⟨q.cyc, q.cf, fun n hn h => by
    have := q.nums
    unfold nums at this
    injection this with h1 h2
    injection h2 with h2 h3
    unfold Nb at h ⊢; omega, fun _ => q.rep⟩

/-- So far i steps. -/
def StsI (w0 w1 wr : World) (Z : Nat → Prop) (b : Nat) (s : Co) (A : Hp) (i : Nat) : Prop :=
  ∃ s' B, Km w0 wr Z b s' ∧ Kp Z w1 wr ∧ Cyc s' B ∧ s'.cf = s.cf ∧ (s'.d.al, s'.d.wd) = (s.d.al, s.d.wd) ∧ (0 ≤ s.d.mi → s.d.mi ≤ 1000000 → s.d.mi ≤ s'.d.mi ∧ s'.d.mi ≤ s.d.mi + i) ∧ (∀ G f, Rep A G f → ∃ f', Rep B G f') ∧ StsD s A i s' B

theorem StsI.step {w1 wr : World} {i : Nat} (h : StsI w0 w1 wr Z b s A i) (hi : i ≤ 20) : Calls Tryz.prog 50 #[ptr b] wr fun e w' => ∃ n y, e = .returned (.tuple #[.int .i64 n, .bool y]) ∧ Kp Z wr w' ∧ StsI w0 w1 w' Z b s A (i + 1) := by
  obtain ⟨s1, B1, k1, p1, c1, e1, e2, e3, rp, sd⟩ := h
  refine (km_step k1 c1).mono ?_
  rintro e w' ⟨s', B, n, y, he, q, k2, p2⟩
  refine ⟨n, y, he, p2, s', B, k2, p1.trans p2, q.cyc, q.cf.trans e1, q.al.trans e2, fun m0 m1 => ?_, fun G f r => ?_, sd.succ q.det⟩
  · obtain ⟨h1, h2⟩ := e3 m0 m1
    cases hm : s1.mv
    · obtain ⟨_, rfl, _⟩ := q.no hm
      omega
    · obtain ⟨_, _, q1, q2⟩ := q.yes hm
      cases y
      · rw [(q2 rfl).1]
        unfold wrap64
        omega
      · rw [(q1 rfl).2.1]
        omega
  · obtain ⟨f1, r1⟩ := rp G f r
    exact q.rep G f1 r1

theorem StsI.keep {w1 wr w2 : World} {i : Nat} (h : StsI w0 w1 wr Z b s A i) (f : Below wr.heap.size wr w2) : StsI w0 w1 w2 Z b s A i := by
  obtain ⟨s1, B1, k1, p1, r⟩ := h
  exact ⟨s1, B1, k1.keep f, p1.trans (Kp.of_below f), r⟩

theorem StsI.do_ {w1 : World} {i : Nat} (h : StsI w0 w1 w' Z b s A i) (hi : i ≤ 20) : ∃ s' B, (∀ k, DoQ s A k s' B) ∧ Km w0 w' Z b s' ∧ Kp Z w1 w' ∧ StsD s A i s' B := by
  obtain ⟨s', B, k1, p1, c1, e1, e2, e3, rp, sd⟩ := h
  refine ⟨s', B, fun k => ⟨c1, e1, fun n hn h => ?_, fun _ => rp⟩, k1, p1, sd⟩
  injection e2 with a1 a2
  unfold Nb at h ⊢
  obtain ⟨b1, b2⟩ := e3 (by omega) (by omega)
  omega

def DoR (w0 w : World) (Z : Nat → Prop) (b : Nat) (s : Co) (A : Hp) (k a p q : Int) (e : Ending) (w' : World) : Prop :=
  ∃ s' B E, e = .returned (.int .i64 E) ∧ DoQ s A k s' B ∧ Km w0 w' Z b s' ∧ Kp Z w w' ∧ DoD s A k a p q s' B

theorem do_out {a p q E : Int} (h : ∃ s' B, DoQ s A k s' B ∧ Km w0 w' (fun j => Z j ∨ j = w.heap.size) b s' ∧ Kp (fun j => Z j ∨ j = w.heap.size) (w.alloc (acB k a p q)) w' ∧ DoD s A k a p q s' B) : DoR w0 w Z b s A k a p q (.returned (.int .i64 E)) w' := by
  obtain ⟨s', B, qq, k1, p1, dd⟩ := h
  exact ⟨s', B, E, rfl, qq, k1.grow (Below.refl _ _) fun j hj => .inl (.inl hj), (Kp.of_below ((Below.refl _ w).alloc (Nat.le_refl _) _)).trans (p1.mono fun j _ hn hz => hn (.inl hz)), dd⟩

set_option maxHeartbeats 4000000 in
theorem do14_make (h : Km w0 w Z b s) (c : Cyc s A) (f : Few s) (a p q : Int) (q1 : q ≤ 9223372036854775807) :
    Calls Tryz.prog 47 #[ptr b, acV 0 a p q] w (DoR w0 w Z b s A 0 a p q) := by
  have K := Lib.hid (h.grow (Z' := fun j => Z j ∨ j = w.heap.size) ((Below.refl _ w).alloc (Nat.le_refl _) (acB 0 a p q)) fun j hj => hj.imp id fun e => ⟨by omega, by subst e; simp⟩)
  have C := Lib.hid c
  have F := Lib.hid f
  clear h c f
  go_enter Tryz.func47, Tryz.ntmps47
  go_wp2_with fail
  refine (km_make K.out C.out F.out a p q q1).mono ?_
  rintro e w3 ⟨s', B, E, rfl, qq, k, kp⟩
  have RE : Hid (DoR w0 w Z b s A 0 a p q (.returned (.int .i64 E)) w3) := Lib.hid (do_out ⟨s', B, qq.do_ (by omega), k, kp, .inl ⟨rfl, E, qq.ent⟩⟩)
  clear qq k kp K C
  go_wp2
  go_ret
  exact RE.out

set_option maxHeartbeats 4000000 in
theorem do14_get (h : Km w0 w Z b s) (c : Cyc s A) (a p q : Int) :
    Calls Tryz.prog 47 #[ptr b, acV 1 a p q] w (DoR w0 w Z b s A 1 a p q) := by
  have K := Lib.hid (h.grow (Z' := fun j => Z j ∨ j = w.heap.size) ((Below.refl _ w).alloc (Nat.le_refl _) (acB 1 a p q)) fun j hj => hj.imp id fun e => ⟨by omega, by subst e; simp⟩)
  have C := Lib.hid c
  clear h c
  go_enter Tryz.func47, Tryz.ntmps47
  go_wp2_with fail
  refine (km_get K.out C.out a p q).mono ?_
  rintro e w3 ⟨s', B, E, rfl, qq, k, kp⟩
  have RE : Hid (DoR w0 w Z b s A 1 a p q (.returned (.int .i64 E)) w3) := Lib.hid (do_out ⟨s', B, qq.do_ (by omega), k, kp, .inr (.inl ⟨rfl, E, qq.ent⟩)⟩)
  clear qq k kp K C
  go_wp2
  go_ret
  exact RE.out

set_option maxHeartbeats 4000000 in
theorem do14_set (h : Km w0 w Z b s) (c : Cyc s A) (a p q : Int) :
    Calls Tryz.prog 47 #[ptr b, acV 2 a p q] w (DoR w0 w Z b s A 2 a p q) := by
  have K := Lib.hid (h.grow (Z' := fun j => Z j ∨ j = w.heap.size) ((Below.refl _ w).alloc (Nat.le_refl _) (acB 2 a p q)) fun j hj => hj.imp id fun e => ⟨by omega, by subst e; simp⟩)
  have C := Lib.hid c
  clear h c
  go_enter Tryz.func47, Tryz.ntmps47
  go_wp2_with fail
  refine (km_set K.out C.out a p q).mono ?_
  rintro e w3 ⟨s', B, E, rfl, qq, k, kp⟩
  have RE : Hid (DoR w0 w Z b s A 2 a p q (.returned (.int .i64 E)) w3) := Lib.hid (do_out ⟨s', B, qq.do_ (by omega), k, kp, .inr (.inr (.inl ⟨rfl, E, qq.ent⟩))⟩)
  clear qq k kp K C
  go_wp2
  go_ret
  exact RE.out

set_option maxHeartbeats 4000000 in
theorem do14_write (h : Km w0 w Z b s) (c : Cyc s A) (a p q : Int) :
    Calls Tryz.prog 47 #[ptr b, acV 3 a p q] w (DoR w0 w Z b s A 3 a p q) := by
  have K := Lib.hid (h.grow (Z' := fun j => Z j ∨ j = w.heap.size) ((Below.refl _ w).alloc (Nat.le_refl _) (acB 3 a p q)) fun j hj => hj.imp id fun e => ⟨by omega, by subst e; simp⟩)
  have C := Lib.hid c
  clear h c
  go_enter Tryz.func47, Tryz.ntmps47
  go_wp2_with fail
  refine (km_write K.out C.out a p (IntKind.u64.wrap q)).mono ?_
  rintro e w3 ⟨s', B, E, rfl, qq, k, kp⟩
  have RE : Hid (DoR w0 w Z b s A 3 a p q (.returned (.int .i64 E)) w3) := Lib.hid (do_out ⟨s', B, qq.do_ (by omega), k, kp, .inr (.inr (.inr (.inl ⟨rfl, E, qq.ent⟩)))⟩)
  clear qq k kp K C
  go_wp2
  go_ret
  exact RE.out

set_option maxHeartbeats 4000000 in
theorem do14_clear (h : Km w0 w Z b s) (c : Cyc s A) (a p q : Int) :
    Calls Tryz.prog 47 #[ptr b, acV 4 a p q] w (DoR w0 w Z b s A 4 a p q) := by
  have K := Lib.hid (h.grow (Z' := fun j => Z j ∨ j = w.heap.size) ((Below.refl _ w).alloc (Nat.le_refl _) (acB 4 a p q)) fun j hj => hj.imp id fun e => ⟨by omega, by subst e; simp⟩)
  have C := Lib.hid c
  clear h c
  go_enter Tryz.func47, Tryz.ntmps47
  go_wp2_with fail
  refine (km_clear K.out C.out a).mono ?_
  rintro e w3 ⟨s', B, E, rfl, qq, k, kp⟩
  have RE : Hid (DoR w0 w Z b s A 4 a p q (.returned (.int .i64 E)) w3) := Lib.hid (do_out ⟨s', B, qq.do_ (by omega), k, kp, .inr (.inr (.inr (.inr (.inl ⟨rfl, E, qq.ent⟩))))⟩)
  clear qq k kp K C
  go_wp2
  go_ret
  exact RE.out

set_option maxHeartbeats 4000000 in
theorem do14_copy (h : Km w0 w Z b s) (c : Cyc s A) (a p q : Int) :
    Calls Tryz.prog 47 #[ptr b, acV 5 a p q] w (DoR w0 w Z b s A 5 a p q) := by
  have K := Lib.hid (h.grow (Z' := fun j => Z j ∨ j = w.heap.size) ((Below.refl _ w).alloc (Nat.le_refl _) (acB 5 a p q)) fun j hj => hj.imp id fun e => ⟨by omega, by subst e; simp⟩)
  have C := Lib.hid c
  clear h c
  go_enter Tryz.func47, Tryz.ntmps47
  go_wp2_with fail
  refine (km_copy K.out C.out a p).mono ?_
  rintro e w3 ⟨s', B, E, rfl, qq, k, kp⟩
  have RE : Hid (DoR w0 w Z b s A 5 a p q (.returned (.int .i64 E)) w3) := Lib.hid (do_out ⟨s', B, qq.do_ (by omega), k, kp, .inr (.inr (.inr (.inr (.inr (.inl ⟨rfl, E, qq.ent⟩)))))⟩)
  clear qq k kp K C
  go_wp2
  go_ret
  exact RE.out

set_option maxHeartbeats 4000000 in
theorem do14_start (h : Km w0 w Z b s) (c : Cyc s A) (a p q : Int) :
    Calls Tryz.prog 47 #[ptr b, acV 6 a p q] w (DoR w0 w Z b s A 6 a p q) := by
  have K := Lib.hid (h.grow (Z' := fun j => Z j ∨ j = w.heap.size) ((Below.refl _ w).alloc (Nat.le_refl _) (acB 6 a p q)) fun j hj => hj.imp id fun e => ⟨by omega, by subst e; simp⟩)
  have C := Lib.hid c
  clear h c
  go_enter Tryz.func47, Tryz.ntmps47
  go_wp2_with fail
  refine (km_start K.out C.out).mono ?_
  rintro e w3 ⟨s', B, rfl, qq, k, kp⟩
  have RE : Hid (DoR w0 w Z b s A 6 a p q (.returned (.int .i64 0)) w3) := Lib.hid (do_out ⟨s', B, qq.do_, k, kp, .inr (.inr (.inr (.inr (.inr (.inr (.inl ⟨rfl, qq.det⟩))))))⟩)
  clear qq k kp K C
  go_wp2
  go_ret
  exact RE.out

set_option maxHeartbeats 4000000 in
theorem do14_steps (h : Km w0 w Z b s) (c : Cyc s A) (k a p q : Int) (hk : k < 0 ∨ 6 < k) :
    Calls Tryz.prog 47 #[ptr b, acV k a p q] w (DoR w0 w Z b s A k a p q) := by
  have K := Lib.hid (h.grow (Z' := fun j => Z j ∨ j = w.heap.size) ((Below.refl _ w).alloc (Nat.le_refl _) (acB k a p q)) fun j hj => hj.imp id fun e => ⟨by omega, by subst e; simp⟩)
  have C := Lib.hid c
  have k0 : (k == 0) = false := by rw [beq_eq_false_iff_ne]; omega
  have k1 : (k == 1) = false := by rw [beq_eq_false_iff_ne]; omega
  have k2 : (k == 2) = false := by rw [beq_eq_false_iff_ne]; omega
  have k3 : (k == 3) = false := by rw [beq_eq_false_iff_ne]; omega
  have k4 : (k == 4) = false := by rw [beq_eq_false_iff_ne]; omega
  have k5 : (k == 5) = false := by rw [beq_eq_false_iff_ne]; omega
  have k6 : (k == 6) = false := by rw [beq_eq_false_iff_ne]; omega
  have S0 : Hid (StsI w0 (w.alloc (acB k a p q)) (w.alloc (acB k a p q)) (fun j => Z j ∨ j = w.heap.size) b s A 0) := Lib.hid ⟨s, A, K.out, Frm.refl _ _, C.out, rfl, rfl, fun _ _ => ⟨Int.le_refl _, by omega⟩, fun G f r => ⟨f, r⟩, .zero⟩
  have HKK := Lib.hid hk
  have X0 := Lib.hid (Blk.new w (acL k a p q) 80)
  clear h c hk K C
  go_enter Tryz.func47, Tryz.ntmps47
  go_wp2_with fail
  go_loopw [5] (fun s5 wr => ∃ i : Nat, i ≤ 20 ∧ i ≤ a.toNat ∧ s5 = .int .i64 i ∧ Hid (StsI w0 (w.alloc (acB k a p q)) wr (fun j => Z j ∨ j = w.heap.size) b s A i) ∧ Hid (Blk wr w.heap.size (acL k a p q) 80)) (fun s5 _ => 20 - (intOf s5).toNat)
  case atStart => exact ⟨0, by omega, Nat.zero_le _, rfl, S0, X0⟩
  case round =>
    clear S0 X0
    obtain ⟨i, hi, hia, rfl, HI, X⟩ := hrel
    have c1 := X.out.cell 1
    have c1 : wr.cell? ⟨w.heap.size, 1, none⟩ = some (.int .i64 a) := c1
    by_cases hlt : (i : Int) < a ∧ i < 20
    · obtain ⟨h1, h2⟩ := hlt
      have h2' : (i : Int) < 20 := by omega
      have HS := Lib.hid (HI.out.step hi)
      go_wp2_with fail
      refine HS.out.mono ?_
      rintro e w3 ⟨n, y, rfl, kp, hs⟩
      have HN := Lib.hid hs
      have XN := Lib.hid (X.out.kp kp (.inr rfl))
      clear kp hs HS HI X c1
      go_wp2
      go_roundw
      case rel => exact ⟨i + 1, by omega, by omega, by go_num, HN, XN⟩
      case measure => simp [intOf]; omega
    · have RE : Hid (DoR w0 w Z b s A k a p q (.returned (.int .i64 0)) wr) := Lib.hid (let ⟨s', B, qq, k1, p1, sd⟩ := HI.out.do_ hi; do_out ⟨s', B, qq k, k1, p1, .inr (.inr (.inr (.inr (.inr (.inr (.inr ⟨HKK.out, by rw [show min a.toNat 20 = i by omega]; exact sd⟩))))))⟩)
      have hlt : (¬ (i : Int) < a) ∨ ((i : Int) < a ∧ ¬ (i : Int) < 20) := by omega
      clear HI X
      rcases hlt with h1 | ⟨h1, h2⟩
      all_goals
        go_wp2
        go_ret
        exact RE.out

/-- An act, whatever it is. -/
theorem do14_any (h : Km w0 w Z b s) (c : Cyc s A) {n : Nat} (f : Nb n s) (hn : n ≤ 1000) (k a p q : Int) (q1 : q ≤ 9223372036854775807) :
    Calls Tryz.prog 47 #[ptr b, acV k a p q] w (DoR w0 w Z b s A k a p q) := by
  by_cases e : k < 0 ∨ 6 < k
  · exact do14_steps h c k a p q e
  · have : k = 0 ∨ k = 1 ∨ k = 2 ∨ k = 3 ∨ k = 4 ∨ k = 5 ∨ k = 6 := by omega
    rcases this with rfl | rfl | rfl | rfl | rfl | rfl | rfl
    · exact do14_make h c (f.few hn) a p q q1
    · exact do14_get h c a p q
    · exact do14_set h c a p q
    · exact do14_write h c a p q
    · exact do14_clear h c a p q
    · exact do14_copy h c a p q
    · exact do14_start h c a p q

end
end Gc
end Go.Proofs.YthmhehehomieiaaGreat

/- The statements' do: an entry of a script, by whatever the core's call comes to. -/
namespace Go.Proofs.YthmhehehomieiaaGreat
open Go.RowKit

/-- Where do stands ahead of the call: the entry and two answers lie in boxes. -/
abbrev doW (w : World) (k a b c v : Int) : World := ((w.alloc (stB k a b c v)).alloc anB).alloc anB
abbrev anL : Array Value := #[.int .i64 0, .bool false, .int .i64 0, .int .u64 0]

theorem doW_below (w : World) (k a b c v : Int) : Below w.heap.size w (doW w k a b c v) := (((Below.refl _ w).alloc (Nat.le_refl _) _).alloc (by simp) _).alloc (by simp; omega) _
theorem doW_size (w : World) (k a b c v : Int) : (doW w k a b c v).heap.size = w.heap.size + 3 := by simp
theorem doW_boxes (w : World) (k a b c v : Int) : Blk (doW w k a b c v) (w.heap.size + 1) anL 55 ∧ Blk (doW w k a b c v) (w.heap.size + 2) anL 55 :=
  ⟨by simpa using (Blk.new (w.alloc (stB k a b c v)) anL 55).alloc anB, by simpa using Blk.new ((w.alloc (stB k a b c v)).alloc anB) anL 55⟩

/-- The call leaves the answers' boxes as they are. -/
def Leaves (w : World) (R : World → Prop) : Prop := ∀ w', R w' → Blk w' (w.heap.size + 1) anL 55 ∧ Blk w' (w.heap.size + 2) anL 55

/-- What stands behind do: the answers' boxes have been written to since. -/
def DoE (w : World) (R : World → Prop) (w' : World) : Prop := ∃ w4, R w4 ∧ Frm (fun k => k = w.heap.size + 1 ∨ k = w.heap.size + 2) w4 w'

theorem Blk.four {w : World} {b : Nat} {t : TypeId} {v0 v1 v2 v3 : Value} (h : Blk w b #[v0, v1, v2, v3] t) :
    w.cell? ⟨b, 0, none⟩ = some v0 ∧ w.cell? ⟨b, 1, none⟩ = some v1 ∧ w.cell? ⟨b, 2, none⟩ = some v2 ∧ w.cell? ⟨b, 3, none⟩ = some v3 ∧ (∀ i, w.frozen? ⟨b, i, none⟩ = false) := ⟨h.cell 0, h.cell 1, h.cell 2, h.cell 3, h.frozen⟩

theorem frm_cell {T : Nat → Prop} {w w' : World} (f : Frm T w w') (b i : Nat) (hb : T b) (v : Value) : Frm T w (w'.setCell ⟨b, i, none⟩ v) := f.setCell (p := ⟨b, i, none⟩) (fun _ => hb) v

set_option maxHeartbeats 4000000 in
set_option maxRecDepth 100000 in
theorem do_Make {pv : Value} (a b c v : Int) (E : Int) (w : World) (R : World → Prop) (hl : Leaves w R)
    (H : Calls Tryz.prog 33 #[pv, .int .i64 a, .int .i64 b, .int .i64 c] (doW w 1 a b c v) fun e w' => e = .returned (.int .i64 E) ∧ R w') :
    Calls Tryz.prog 26 #[pv, sgV 1 a b c v] w fun e w' => e = .returned (anV E false 0 0) ∧ DoE w R w' := by
  have H := Lib.hid H
  have HL := Lib.hid hl
  clear hl
  go_enter Tryz.func26, Tryz.ntmps26
  go_wp2_with fail
  refine H.out.mono ?_
  rintro e w4 ⟨rfl, r⟩
  have x := HL.out _ r
  obtain ⟨c0, c1, c2, c3, cf⟩ := x.1.four
  obtain ⟨d0, d1, d2, d3, df⟩ := x.2.four
  have HR := Lib.hid r
  have HX := Lib.hid x
  clear r x H HL
  go_wp2
  refine bodyPost_ret (v := anV E false 0 0) (by simp [results, Tryz.results26, go_sem, c0, c1, c2, c3]) rfl ⟨rfl, _, HR.out, ?_⟩
  refine frm_cell (frm_cell (frm_cell (frm_cell ?_ _ _ (.inl rfl) _) _ _ (.inl rfl) _) _ _ (.inl rfl) _) _ _ (.inl rfl) _
  exact frm_cell (Frm.refl _ _) _ _ (.inr rfl) _

set_option maxHeartbeats 4000000 in
set_option maxRecDepth 100000 in
theorem do_Get {pv : Value} (a b c v : Int) (E : Int) (w : World) (R : World → Prop) (hl : Leaves w R)
    (H : Calls Tryz.prog 35 #[pv, .int .i64 a, .int .i64 b, .int .i64 c] (doW w 2 a b c v) fun e w' => e = .returned (.int .i64 E) ∧ R w') :
    Calls Tryz.prog 26 #[pv, sgV 2 a b c v] w fun e w' => e = .returned (anV E false 0 0) ∧ DoE w R w' := by
  have H := Lib.hid H
  have HL := Lib.hid hl
  clear hl
  go_enter Tryz.func26, Tryz.ntmps26
  go_wp2_with fail
  refine H.out.mono ?_
  rintro e w4 ⟨rfl, r⟩
  have x := HL.out _ r
  obtain ⟨c0, c1, c2, c3, cf⟩ := x.1.four
  obtain ⟨d0, d1, d2, d3, df⟩ := x.2.four
  have HR := Lib.hid r
  have HX := Lib.hid x
  clear r x H HL
  go_wp2
  refine bodyPost_ret (v := anV E false 0 0) (by simp [results, Tryz.results26, go_sem, c0, c1, c2, c3]) rfl ⟨rfl, _, HR.out, ?_⟩
  refine frm_cell (frm_cell (frm_cell (frm_cell ?_ _ _ (.inl rfl) _) _ _ (.inl rfl) _) _ _ (.inl rfl) _) _ _ (.inl rfl) _
  exact frm_cell (Frm.refl _ _) _ _ (.inr rfl) _

set_option maxHeartbeats 4000000 in
set_option maxRecDepth 100000 in
theorem do_Set {pv : Value} (a b c v : Int) (E : Int) (w : World) (R : World → Prop) (hl : Leaves w R)
    (H : Calls Tryz.prog 41 #[pv, .int .i64 a, .int .i64 b, .int .i64 c] (doW w 3 a b c v) fun e w' => e = .returned (.int .i64 E) ∧ R w') :
    Calls Tryz.prog 26 #[pv, sgV 3 a b c v] w fun e w' => e = .returned (anV E false 0 0) ∧ DoE w R w' := by
  have H := Lib.hid H
  have HL := Lib.hid hl
  clear hl
  go_enter Tryz.func26, Tryz.ntmps26
  go_wp2_with fail
  refine H.out.mono ?_
  rintro e w4 ⟨rfl, r⟩
  have x := HL.out _ r
  obtain ⟨c0, c1, c2, c3, cf⟩ := x.1.four
  obtain ⟨d0, d1, d2, d3, df⟩ := x.2.four
  have HR := Lib.hid r
  have HX := Lib.hid x
  clear r x H HL
  go_wp2
  refine bodyPost_ret (v := anV E false 0 0) (by simp [results, Tryz.results26, go_sem, c0, c1, c2, c3]) rfl ⟨rfl, _, HR.out, ?_⟩
  refine frm_cell (frm_cell (frm_cell (frm_cell ?_ _ _ (.inl rfl) _) _ _ (.inl rfl) _) _ _ (.inl rfl) _) _ _ (.inl rfl) _
  exact frm_cell (Frm.refl _ _) _ _ (.inr rfl) _

set_option maxHeartbeats 4000000 in
set_option maxRecDepth 100000 in
theorem do_Write {pv : Value} (a b c v : Int) (E : Int) (w : World) (R : World → Prop) (hl : Leaves w R)
    (H : Calls Tryz.prog 40 #[pv, .int .i64 a, .int .i64 b, .int .u64 v] (doW w 5 a b c v) fun e w' => e = .returned (.int .i64 E) ∧ R w') :
    Calls Tryz.prog 26 #[pv, sgV 5 a b c v] w fun e w' => e = .returned (anV E false 0 0) ∧ DoE w R w' := by
  have H := Lib.hid H
  have HL := Lib.hid hl
  clear hl
  go_enter Tryz.func26, Tryz.ntmps26
  go_wp2_with fail
  refine H.out.mono ?_
  rintro e w4 ⟨rfl, r⟩
  have x := HL.out _ r
  obtain ⟨c0, c1, c2, c3, cf⟩ := x.1.four
  obtain ⟨d0, d1, d2, d3, df⟩ := x.2.four
  have HR := Lib.hid r
  have HX := Lib.hid x
  clear r x H HL
  go_wp2
  refine bodyPost_ret (v := anV E false 0 0) (by simp [results, Tryz.results26, go_sem, c0, c1, c2, c3]) rfl ⟨rfl, _, HR.out, ?_⟩
  refine frm_cell (frm_cell (frm_cell (frm_cell ?_ _ _ (.inl rfl) _) _ _ (.inl rfl) _) _ _ (.inl rfl) _) _ _ (.inl rfl) _
  exact frm_cell (Frm.refl _ _) _ _ (.inr rfl) _

set_option maxHeartbeats 4000000 in
set_option maxRecDepth 100000 in
theorem do_Clear {pv : Value} (a b c v : Int) (E : Int) (w : World) (R : World → Prop) (hl : Leaves w R)
    (H : Calls Tryz.prog 44 #[pv, .int .i64 a] (doW w 6 a b c v) fun e w' => e = .returned (.int .i64 E) ∧ R w') :
    Calls Tryz.prog 26 #[pv, sgV 6 a b c v] w fun e w' => e = .returned (anV E false 0 0) ∧ DoE w R w' := by
  have H := Lib.hid H
  have HL := Lib.hid hl
  clear hl
  go_enter Tryz.func26, Tryz.ntmps26
  go_wp2_with fail
  refine H.out.mono ?_
  rintro e w4 ⟨rfl, r⟩
  have x := HL.out _ r
  obtain ⟨c0, c1, c2, c3, cf⟩ := x.1.four
  obtain ⟨d0, d1, d2, d3, df⟩ := x.2.four
  have HR := Lib.hid r
  have HX := Lib.hid x
  clear r x H HL
  go_wp2
  refine bodyPost_ret (v := anV E false 0 0) (by simp [results, Tryz.results26, go_sem, c0, c1, c2, c3]) rfl ⟨rfl, _, HR.out, ?_⟩
  refine frm_cell (frm_cell (frm_cell (frm_cell ?_ _ _ (.inl rfl) _) _ _ (.inl rfl) _) _ _ (.inl rfl) _) _ _ (.inl rfl) _
  exact frm_cell (Frm.refl _ _) _ _ (.inr rfl) _

set_option maxHeartbeats 4000000 in
set_option maxRecDepth 100000 in
theorem do_Copy {pv : Value} (a b c v : Int) (E : Int) (w : World) (R : World → Prop) (hl : Leaves w R)
    (H : Calls Tryz.prog 42 #[pv, .int .i64 a, .int .i64 b] (doW w 7 a b c v) fun e w' => e = .returned (.int .i64 E) ∧ R w') :
    Calls Tryz.prog 26 #[pv, sgV 7 a b c v] w fun e w' => e = .returned (anV E false 0 0) ∧ DoE w R w' := by
  have H := Lib.hid H
  have HL := Lib.hid hl
  clear hl
  go_enter Tryz.func26, Tryz.ntmps26
  go_wp2_with fail
  refine H.out.mono ?_
  rintro e w4 ⟨rfl, r⟩
  have x := HL.out _ r
  obtain ⟨c0, c1, c2, c3, cf⟩ := x.1.four
  obtain ⟨d0, d1, d2, d3, df⟩ := x.2.four
  have HR := Lib.hid r
  have HX := Lib.hid x
  clear r x H HL
  go_wp2
  refine bodyPost_ret (v := anV E false 0 0) (by simp [results, Tryz.results26, go_sem, c0, c1, c2, c3]) rfl ⟨rfl, _, HR.out, ?_⟩
  refine frm_cell (frm_cell (frm_cell (frm_cell ?_ _ _ (.inl rfl) _) _ _ (.inl rfl) _) _ _ (.inl rfl) _) _ _ (.inl rfl) _
  exact frm_cell (Frm.refl _ _) _ _ (.inr rfl) _

set_option maxHeartbeats 4000000 in
set_option maxRecDepth 100000 in
theorem do_Read {pv : Value} (a b c v : Int) (E V : Int) (w : World) (R : World → Prop) (hl : Leaves w R)
    (H : Calls Tryz.prog 37 #[pv, .int .i64 a, .int .i64 b] (doW w 4 a b c v) fun e w' => e = .returned (.tuple #[.int .u64 V, .int .i64 E]) ∧ R w') :
    Calls Tryz.prog 26 #[pv, sgV 4 a b c v] w fun e w' => e = .returned (anV E false 0 V) ∧ DoE w R w' := by
  have H := Lib.hid H
  have HL := Lib.hid hl
  clear hl
  go_enter Tryz.func26, Tryz.ntmps26
  go_wp2_with fail
  refine H.out.mono ?_
  rintro e w4 ⟨rfl, r⟩
  have x := HL.out _ r
  obtain ⟨c0, c1, c2, c3, cf⟩ := x.1.four
  obtain ⟨d0, d1, d2, d3, df⟩ := x.2.four
  have HR := Lib.hid r
  have HX := Lib.hid x
  clear r x H HL
  go_wp2
  refine bodyPost_ret (v := anV E false 0 V) (by simp [results, Tryz.results26, go_sem, c0, c1, c2, c3]) rfl ⟨rfl, _, HR.out, ?_⟩
  refine frm_cell (frm_cell (frm_cell (frm_cell ?_ _ _ (.inl rfl) _) _ _ (.inl rfl) _) _ _ (.inl rfl) _) _ _ (.inl rfl) _
  exact frm_cell (frm_cell (Frm.refl _ _) _ _ (.inr rfl) _) _ _ (.inr rfl) _

set_option maxHeartbeats 4000000 in
set_option maxRecDepth 100000 in
theorem do_Same {pv : Value} (a b c v : Int) (E : Int) (y : Bool) (w : World) (R : World → Prop) (hl : Leaves w R)
    (H : Calls Tryz.prog 43 #[pv, .int .i64 a, .int .i64 b] (doW w 8 a b c v) fun e w' => e = .returned (.tuple #[.bool y, .int .i64 E]) ∧ R w') :
    Calls Tryz.prog 26 #[pv, sgV 8 a b c v] w fun e w' => e = .returned (anV E y 0 0) ∧ DoE w R w' := by
  have H := Lib.hid H
  have HL := Lib.hid hl
  clear hl
  go_enter Tryz.func26, Tryz.ntmps26
  go_wp2_with fail
  refine H.out.mono ?_
  rintro e w4 ⟨rfl, r⟩
  have x := HL.out _ r
  obtain ⟨c0, c1, c2, c3, cf⟩ := x.1.four
  obtain ⟨d0, d1, d2, d3, df⟩ := x.2.four
  have HR := Lib.hid r
  have HX := Lib.hid x
  clear r x H HL
  go_wp2
  refine bodyPost_ret (v := anV E y 0 0) (by simp [results, Tryz.results26, go_sem, c0, c1, c2, c3]) rfl ⟨rfl, _, HR.out, ?_⟩
  refine frm_cell (frm_cell (frm_cell (frm_cell ?_ _ _ (.inl rfl) _) _ _ (.inl rfl) _) _ _ (.inl rfl) _) _ _ (.inl rfl) _
  exact frm_cell (frm_cell (Frm.refl _ _) _ _ (.inr rfl) _) _ _ (.inr rfl) _

set_option maxHeartbeats 4000000 in
set_option maxRecDepth 100000 in
theorem do_Nil {pv : Value} (a b c v : Int) (E : Int) (y : Bool) (w : World) (R : World → Prop) (hl : Leaves w R)
    (H : Calls Tryz.prog 36 #[pv, .int .i64 a] (doW w 9 a b c v) fun e w' => e = .returned (.tuple #[.bool y, .int .i64 E]) ∧ R w') :
    Calls Tryz.prog 26 #[pv, sgV 9 a b c v] w fun e w' => e = .returned (anV E y 0 0) ∧ DoE w R w' := by
  have H := Lib.hid H
  have HL := Lib.hid hl
  clear hl
  go_enter Tryz.func26, Tryz.ntmps26
  go_wp2_with fail
  refine H.out.mono ?_
  rintro e w4 ⟨rfl, r⟩
  have x := HL.out _ r
  obtain ⟨c0, c1, c2, c3, cf⟩ := x.1.four
  obtain ⟨d0, d1, d2, d3, df⟩ := x.2.four
  have HR := Lib.hid r
  have HX := Lib.hid x
  clear r x H HL
  go_wp2
  refine bodyPost_ret (v := anV E y 0 0) (by simp [results, Tryz.results26, go_sem, c0, c1, c2, c3]) rfl ⟨rfl, _, HR.out, ?_⟩
  refine frm_cell (frm_cell (frm_cell (frm_cell ?_ _ _ (.inl rfl) _) _ _ (.inl rfl) _) _ _ (.inl rfl) _) _ _ (.inl rfl) _
  exact frm_cell (frm_cell (Frm.refl _ _) _ _ (.inr rfl) _) _ _ (.inr rfl) _

set_option maxHeartbeats 4000000 in
set_option maxRecDepth 100000 in
theorem do_Shape {pv : Value} (a b c v : Int) (E p q : Int) (q0 : 0 ≤ q) (q1 : q ≤ 100000) (w : World) (R : World → Prop) (hl : Leaves w R)
    (H : Calls Tryz.prog 34 #[pv, .int .i64 a] (doW w 10 a b c v) fun e w' => e = .returned (.tuple #[.int .i64 p, .int .i64 q, .int .i64 E]) ∧ R w') :
    Calls Tryz.prog 26 #[pv, sgV 10 a b c v] w fun e w' => e = .returned (anV E false p q) ∧ DoE w R w' := by
  have H := Lib.hid H
  have HL := Lib.hid hl
  clear hl
  have hw : IntKind.u64.wrap q = q := by unfold IntKind.wrap IntKind.bits; simp; omega
  go_enter Tryz.func26, Tryz.ntmps26
  go_wp2_with fail
  refine H.out.mono ?_
  rintro e w4 ⟨rfl, r⟩
  have x := HL.out _ r
  obtain ⟨c0, c1, c2, c3, cf⟩ := x.1.four
  obtain ⟨d0, d1, d2, d3, df⟩ := x.2.four
  have HR := Lib.hid r
  have HX := Lib.hid x
  clear r x H HL
  go_wp2
  refine bodyPost_ret (v := anV E false p q) (by simp [results, Tryz.results26, go_sem, c0, c1, c2, c3]) rfl ⟨rfl, _, HR.out, ?_⟩
  refine frm_cell (frm_cell (frm_cell (frm_cell ?_ _ _ (.inl rfl) _) _ _ (.inl rfl) _) _ _ (.inl rfl) _) _ _ (.inl rfl) _
  exact frm_cell (frm_cell (frm_cell (Frm.refl _ _) _ _ (.inr rfl) _) _ _ (.inr rfl) _) _ _ (.inr rfl) _

set_option maxHeartbeats 4000000 in
set_option maxRecDepth 100000 in
theorem do_other {pv : Value} (k a b c v : Int) (hk : k < 1 ∨ 10 < k) (w : World) :
    Calls Tryz.prog 26 #[pv, sgV k a b c v] w fun e w' => e = .returned (anV 0 false 0 0) ∧ Below w.heap.size w w' := by
  have k1 : ¬ k = 1 := by omega
  have k2 : ¬ k = 2 := by omega
  have k3 : ¬ k = 3 := by omega
  have k4 : ¬ k = 4 := by omega
  have k5 : ¬ k = 5 := by omega
  have k6 : ¬ k = 6 := by omega
  have k7 : ¬ k = 7 := by omega
  have k8 : ¬ k = 8 := by omega
  have k9 : ¬ k = 9 := by omega
  have k10 : ¬ k = 10 := by omega
  have BW := Lib.hid (doW_below w k a b c v)
  clear hk
  go_enter Tryz.func26, Tryz.ntmps26
  go_wp2
  exact bodyPost_ret (v := anV 0 false 0 0) (by simp [results, Tryz.results26, go_sem]) rfl ⟨rfl, BW.out⟩

end Go.Proofs.YthmhehehomieiaaGreat

/- An entry of a script, done by a core: what it answers, and which graph the core holds then. -/
namespace Go.Proofs.YthmhehehomieiaaGreat
open Go.RowKit

/-- What an entry is answered, and which graph there is behind it. -/
def doA (nu : Int) (G : Gr) (k a p q v : Int) : Int × Bool × Int × Int :=
  if k = 1 ∨ k = 2 ∨ k = 3 ∨ k = 5 ∨ k = 6 ∨ k = 7 then (stE nu G k a p q v, false, 0, 0)
  else if k = 4 ∨ k = 8 ∨ k = 9 ∨ k = 10 then G.ask k a p else (0, false, 0, 0)
def doG (nu : Int) (G : Gr) (k a p q v : Int) : Gr :=
  if k = 1 ∨ k = 2 ∨ k = 3 ∨ k = 5 ∨ k = 6 ∨ k = 7 then stG nu G k a p q v else G

abbrev anOf (x : Int × Bool × Int × Int) : Value := anV x.1 x.2.1 x.2.2.1 x.2.2.2

/-- Behind an entry: with an error the core holds what it held. -/
def KzP (w0 : World) (b : Nat) (s : Co) (G' : Gr) (E : Int) (Z : Nat → Prop) (w' : World) : Prop := ∃ s', Kz w0 w' Z b s' G' ∧ s'.cf = s.cf ∧ (E ≠ 0 → s' = s)

section
variable {w0 w w' : World} {Z : Nat → Prop} {b : Nat} {s : Co} {G G' : Gr} {k a p q v : Int}

theorem kz_do_of {P : Program} {m d : FuncId} {args dargs : Array Value} {M Eo : Ending → Prop} {E : Int} (h : Kz w0 w Z b s G)
    (D : ∀ R, Leaves w R → (Calls P m args (doW w k a p q v) fun e w' => M e ∧ R w') → Calls P d dargs w fun e w' => Eo e ∧ DoE w R w')
    (c : ∀ S, Cr (doW w k a p q v) b S s → Calls P m args (doW w k a p q v) fun e w' => M e ∧ Act13 (doW w k a p q v) b S s E G' w') :
    Calls P d dargs w fun e w' => Eo e ∧ KzP w0 b s G' E Z w' ∧ Kp Z w w' := by
  have bw := doW_below w k a p q v
  have hs := doW_size w k a p q v
  obtain ⟨x1, x2⟩ := doW_boxes w k a p q v
  have h1 : Kz w0 (doW w k a p q v) (fun j => Z j ∨ j = w.heap.size + 1 ∨ j = w.heap.size + 2) b s G := h.grow bw fun j hj => hj.imp id fun e => by rw [hs]; omega
  have hc := h1.act c
  generalize doW w k a p q v = W at *
  refine (D (fun w' => ∃ s', Kz w0 w' (fun j => Z j ∨ j = w.heap.size + 1 ∨ j = w.heap.size + 2) b s' G' ∧ Kp (fun j => Z j ∨ j = w.heap.size + 1 ∨ j = w.heap.size + 2) W w' ∧ s'.cf = s.cf ∧ (E ≠ 0 → s' = s))
    (fun w' hw => ?_) hc).mono fun e w' ⟨he, w4, hw, f⟩ => ?_
  · obtain ⟨s', _, kp, _⟩ := hw
    exact ⟨x1.kp kp (.inr (.inl rfl)), x2.kp kp (.inr (.inr rfl))⟩
  · obtain ⟨s', k', kp, e1, e2⟩ := hw
    refine ⟨he, ⟨s', k'.write f (fun j _ hj => .inr hj) (fun j hj => .inl (.inl hj)), e1, e2⟩, ?_⟩
    have q1 : Kp Z W w4 := kp.mono fun j _ hn hz => hn (.inl hz)
    have q2 : Kp Z w4 w' := f.mono fun j _ hj hz => by have := (h.low j hz).2; omega
    exact Kp.trans (Kp.of_below bw) (Kp.trans q1 q2)

/-- An entry. -/
theorem kz_do (h : Kz w0 w Z b s G) (k a p q v : Int) (q1 : q ≤ 9223372036854775807) :
    Calls Tryz.prog 26 #[ptr b, sgV k a p q v] w fun e w' => e = .returned (anOf (doA s.cf.nu G k a p q v)) ∧ KzP w0 b s (doG s.cf.nu G k a p q v) (doA s.cf.nu G k a p q v).1 Z w' ∧ Kp Z w w' := by
  by_cases hk : k < 1 ∨ 10 < k
  · have hA : doA s.cf.nu G k a p q v = (0, false, 0, 0) := by unfold doA; rw [if_neg (by omega), if_neg (by omega)]
    have hG : doG s.cf.nu G k a p q v = G := by unfold doG; rw [if_neg (by omega)]
    rw [hA, hG]
    exact (do_other k a p q v hk w).mono fun _ _ ⟨he, hb⟩ => ⟨he, ⟨s, h.keep hb, rfl, fun _ => rfl⟩, Kp.of_below hb⟩
  · have hk : k = 1 ∨ k = 2 ∨ k = 3 ∨ k = 4 ∨ k = 5 ∨ k = 6 ∨ k = 7 ∨ k = 8 ∨ k = 9 ∨ k = 10 := by omega
    rcases hk with rfl | rfl | rfl | rfl | rfl | rfl | rfl | rfl | rfl | rfl
    · have hA : doA s.cf.nu G 1 a p q v = (stE s.cf.nu G 1 a p q v, false, 0, 0) := rfl
      have hG : doG s.cf.nu G 1 a p q v = stG s.cf.nu G 1 a p q v := rfl
      rw [hA, hG]
      exact kz_do_of h (fun R hl H => do_Make a p q v _ w R hl H) fun S hC => make_rep hC h.rep a p q v q1
    · have hA : doA s.cf.nu G 2 a p q v = ((G.change 2 a p q v).1, false, 0, 0) := by rw [← stE_other (nu := s.cf.nu) (by omega)]; rfl
      have hG : doG s.cf.nu G 2 a p q v = (G.change 2 a p q v).2 := by rw [← stG_other (nu := s.cf.nu) (by omega)]; rfl
      rw [hA, hG]
      exact kz_do_of h (fun R hl H => do_Get a p q v _ w R hl H) fun S hC => get_rep hC h.rep a p q v
    · have hA : doA s.cf.nu G 3 a p q v = ((G.change 3 a p q v).1, false, 0, 0) := by rw [← stE_other (nu := s.cf.nu) (by omega)]; rfl
      have hG : doG s.cf.nu G 3 a p q v = (G.change 3 a p q v).2 := by rw [← stG_other (nu := s.cf.nu) (by omega)]; rfl
      rw [hA, hG]
      exact kz_do_of h (fun R hl H => do_Set a p q v _ w R hl H) fun S hC => set_rep hC h.rep a p q v
    · have hA : doA s.cf.nu G 4 a p q v = G.ask 4 a p := rfl
      have hG : doG s.cf.nu G 4 a p q v = G := rfl
      rw [hA, hG]
      have ha : (G.ask 4 a p).2.1 = false ∧ (G.ask 4 a p).2.2.1 = 0 := by
        unfold Gr.ask
        rw [if_pos rfl]
        split
        · split <;> exact ⟨rfl, rfl⟩
        · exact ⟨rfl, rfl⟩
      have := kz_do_of (E := (G.ask 4 a p).1) h (fun R hl H => do_Read a p q v (G.ask 4 a p).1 (G.ask 4 a p).2.2.2 w R hl H) fun S hC => (read_rep hC h.rep a p).mono fun _ _ ⟨h1, _, _, h2⟩ => ⟨h1, .same h.rep h2 _⟩
      unfold anOf
      rw [ha.1, ha.2]
      exact this
    · have hA : doA s.cf.nu G 5 a p q v = ((G.change 5 a p q v).1, false, 0, 0) := by rw [← stE_other (nu := s.cf.nu) (by omega)]; rfl
      have hG : doG s.cf.nu G 5 a p q v = (G.change 5 a p q v).2 := by rw [← stG_other (nu := s.cf.nu) (by omega)]; rfl
      rw [hA, hG]
      exact kz_do_of h (fun R hl H => do_Write a p q v _ w R hl H) fun S hC => write_rep hC h.rep a p q v
    · have hA : doA s.cf.nu G 6 a p q v = ((G.change 6 a p q v).1, false, 0, 0) := by rw [← stE_other (nu := s.cf.nu) (by omega)]; rfl
      have hG : doG s.cf.nu G 6 a p q v = (G.change 6 a p q v).2 := by rw [← stG_other (nu := s.cf.nu) (by omega)]; rfl
      rw [hA, hG]
      exact kz_do_of h (fun R hl H => do_Clear a p q v _ w R hl H) fun S hC => clear_rep hC h.rep a p q v
    · have hA : doA s.cf.nu G 7 a p q v = ((G.change 7 a p q v).1, false, 0, 0) := by rw [← stE_other (nu := s.cf.nu) (by omega)]; rfl
      have hG : doG s.cf.nu G 7 a p q v = (G.change 7 a p q v).2 := by rw [← stG_other (nu := s.cf.nu) (by omega)]; rfl
      rw [hA, hG]
      exact kz_do_of h (fun R hl H => do_Copy a p q v _ w R hl H) fun S hC => coCopy_rep hC h.rep a p q v
    · have hA : doA s.cf.nu G 8 a p q v = G.ask 8 a p := rfl
      have hG : doG s.cf.nu G 8 a p q v = G := rfl
      rw [hA, hG]
      have ha : (G.ask 8 a p).2.2 = (0, 0) := by
        unfold Gr.ask
        rw [if_neg (by omega), if_neg (by omega), if_pos rfl]
        split <;> rfl
      have := kz_do_of (E := (G.ask 8 a p).1) h (fun R hl H => do_Same a p q v (G.ask 8 a p).1 (G.ask 8 a p).2.1 w R hl H) fun S hC => (same_rep hC h.rep a p).mono fun _ _ ⟨h1, _, h2⟩ => ⟨h1, by subst h2; exact .same h.rep hC.same _⟩
      unfold anOf
      rw [ha]
      exact this
    · have hA : doA s.cf.nu G 9 a p q v = G.ask 9 a p := rfl
      have hG : doG s.cf.nu G 9 a p q v = G := rfl
      rw [hA, hG]
      have ha : (G.ask 9 a p).2.2 = (0, 0) := by
        unfold Gr.ask
        rw [if_neg (by omega), if_neg (by omega), if_neg (by omega), if_pos rfl]
        split <;> rfl
      have := kz_do_of (E := (G.ask 9 a p).1) h (fun R hl H => do_Nil a p q v (G.ask 9 a p).1 (G.ask 9 a p).2.1 w R hl H) fun S hC => (nil_rep hC h.rep a p).mono fun _ _ ⟨h1, _, h2⟩ => ⟨h1, by subst h2; exact .same h.rep hC.same _⟩
      unfold anOf
      rw [ha]
      exact this
    · have hA : doA s.cf.nu G 10 a p q v = G.ask 10 a p := rfl
      have hG : doG s.cf.nu G 10 a p q v = G := rfl
      rw [hA, hG]
      have ha : (G.ask 10 a p).2.1 = false ∧ 0 ≤ (G.ask 10 a p).2.2.2 ∧ (G.ask 10 a p).2.2.2 ≤ 100000 := by
        unfold Gr.ask
        rw [if_neg (by omega), if_pos rfl]
        by_cases kk : G.wrong a = 0
        · rw [if_pos kk]
          obtain ⟨e, z⟩ := Gr.wrong_zero kk
          have := h.rep.small _ (h.rep.mem e z)
          refine ⟨rfl, ?_, ?_⟩ <;> simp only <;> omega
        · rw [if_neg kk]; exact ⟨rfl, by simp, by simp⟩
      have := kz_do_of (E := (G.ask 10 a p).1) h (fun R hl H => do_Shape a p q v (G.ask 10 a p).1 (G.ask 10 a p).2.2.1 (G.ask 10 a p).2.2.2 ha.2.1 ha.2.2 w R hl H) fun S hC => (shape_rep hC h.rep a p).mono fun _ _ ⟨h1, _, h2⟩ => ⟨h1, .same h.rep h2 _⟩
      unfold anOf
      rw [ha.1]
      exact this

theorem kg_do {c : Cfg} (h : Kg w0 w Z b c G) (k a p q v : Int) (q1 : q ≤ 9223372036854775807) :
    Calls Tryz.prog 26 #[ptr b, sgV k a p q v] w fun e w' => e = .returned (anOf (doA c.nu G k a p q v)) ∧ Kg w0 w' Z b c (doG c.nu G k a p q v) ∧ Kp Z w w' := by
  obtain ⟨s, kz, rfl⟩ := h
  exact (kz_do kz k a p q v q1).mono fun _ _ ⟨he, ⟨s', k', e1, _⟩, kp⟩ => ⟨he, ⟨s', k', e1⟩, kp⟩
end
end Go.Proofs.YthmhehehomieiaaGreat

/- What the walks over scripts share; the walk of CoreCopies. -/
namespace Go.Proofs.YthmhehehomieiaaGreat
open Go.RowKit

theorem change_len (G : Gr) (k a b c v : Int) : (G.change k a b c v).2.hs.length = G.hs.length := by
  unfold Gr.change Gr.hold Gr.setNode
  repeat' split
  all_goals simp
theorem doG_len (nu : Int) (G : Gr) (k a p q v : Int) : (doG nu G k a p q v).hs.length = G.hs.length := by
  unfold doG stG
  split
  · split
    · rfl
    · exact change_len _ _ _ _ _ _
  · rfl

/-- Two handles are there. -/
theorem Gr.two {G : Gr} (h : 2 ≤ G.hs.length) : ∃ ns x0 x1 r lg, G = ⟨ns, x0 :: x1 :: r, lg⟩ := by
  obtain ⟨ns, hs, lg⟩ := G
  match hs, h with
  | x0 :: x1 :: r, _ => exact ⟨ns, x0, x1, r, lg, rfl⟩

section
variable (ns : List Node2) (x0 x1 : Int) (r : List Int) (lg : Int)
theorem two_has0 : (Gr.mk ns (x0 :: x1 :: r) lg).has 0 = true := by simp [Gr.has]; omega
theorem two_has1 : (Gr.mk ns (x0 :: x1 :: r) lg).has 1 = true := by simp [Gr.has]; omega
theorem two_held0 : (Gr.mk ns (x0 :: x1 :: r) lg).held 0 = x0 := rfl
theorem two_held1 : (Gr.mk ns (x0 :: x1 :: r) lg).held 1 = x1 := rfl
theorem two_copy : (Gr.mk ns (x0 :: x1 :: r) lg).change 7 0 1 0 0 = (0, ⟨ns, x1 :: x1 :: r, lg⟩) := by
  unfold Gr.change
  simp only [two_has0, two_has1]
  rfl
theorem two_clear1 : (Gr.mk ns (x0 :: x1 :: r) lg).change 6 1 0 0 0 = (0, ⟨ns, x0 :: 0 :: r, lg⟩) := by
  unfold Gr.change
  simp only [two_has1]
  rfl
theorem two_same : (Gr.mk ns (x0 :: x1 :: r) lg).ask 8 0 1 = (0, x0 == x1, 0, 0) := by
  unfold Gr.ask
  simp only [two_has0, two_has1]
  rfl
theorem two_nil0 : (Gr.mk ns (x0 :: x1 :: r) lg).ask 9 0 0 = (0, x0 == 0, 0, 0) := by
  unfold Gr.ask
  simp only [two_has0]
  rfl
theorem two_nil1 : (Gr.mk ns (x0 :: x1 :: r) lg).ask 9 1 0 = (0, x1 == 0, 0, 0) := by
  unfold Gr.ask
  simp only [two_has1]
  rfl
end

/-- The core holds a graph with so many handles. -/
def Kl (w0 w : World) (Z : Nat → Prop) (b : Nat) (c : Cfg) (n : Nat) : Prop := ∃ G, Kg w0 w Z b c G ∧ G.hs.length = n

set_option maxHeartbeats 8000000 in
set_option maxRecDepth 100000 in
theorem coreCopies_walk (a b c d : Int) (ha : By a) (hb : By b) (hc : By c) (hd : By d) (A : Option Addr) (n cp : Nat) (w : World) (rd : RdSt w A n) (_ : n ≤ cp) (_ : cp ≤ maxLen) :
    Calls Tryz.prog 10 #[.int .u8 a, .int .u8 b, .int .u8 c, .int .u8 d, .slice A n cp] w fun e w' => e = .returned (.bool true) ∧ Below w.heap.size w w' := by
  have HC := Lib.hid (config_any a b c d ha hb hc hd)
  have HM := Lib.hid (cfgOf_may a b c d ha hb hc hd)
  have HH := Lib.hid (show (Gr.none_ (cfgOf a b c d)).hs.length = (cfgOf a b c d).ha.toNat from zeros_length _)
  have H2 := Lib.hid (show 2 ≤ (cfgOf a b c d).ha.toNat from by show 2 ≤ (a % 5 + 2).toNat; have := ha.1; omega)
  have RD := Lib.hid rd
  clear ha hb hc hd rd
  generalize cfgOf a b c d = cf at *
  go_enter Tryz.func10, Tryz.ntmps10
  go_wp2_with fail
  refine (HC.out _).mono ?_
  rintro e w1 ⟨rfl, b1⟩
  have HN := Lib.hid (kg_new (w0 := w) (Z := noZ) HM.out b1 (fun _ e => e.elim))
  clear b1 HC
  go_wp2_with fail
  refine HN.out.mono ?_
  rintro e w2 ⟨b, rfl, k2, _⟩
  have K2 := Lib.hid k2
  clear k2 HN HM
  go_wp2_with fail
  refine (awake13_walk _).mono ?_
  rintro e w3 ⟨rfl, b3⟩
  have KL := Lib.hid (show Kl w w3 noZ b cf cf.ha.toNat from ⟨_, K2.out.keep b3, HH.out⟩)
  clear b3 K2 HH
  go_wp2_with fail
  go_loopw [13] (fun s wr => ∃ (i : Nat), i ≤ n ∧ i ≤ 60 ∧ s = .int .i64 i ∧ Hid (Kl w wr noZ b cf cf.ha.toNat)) (fun s _ => n - (intOf s).toNat)
  case atStart => exact ⟨0, Nat.zero_le _, Nat.zero_le _, rfl, KL⟩
  case round =>
    clear KL
    obtain ⟨i, hi, hi2, rfl, KL⟩ := hrel
    by_cases hlt : i < n ∧ i < 60
    · obtain ⟨h1, h2⟩ := hlt
      obtain ⟨ad, k, x, p, q, v, rfl, _, iq, hcell⟩ := RD.out i h1
      obtain ⟨G, HG, hL⟩ := KL.out
      obtain ⟨c0, c1, c2, c3, c4⟩ := hcell _ HG.bel
      have HD := Lib.hid (kg_do HG k x p q v iq.2)
      have hL := Lib.hid ((doG_len cf.nu G k x p q v).trans hL)
      have h3 : (i : Int) < (n : Int) := by omega
      have h4 : (i : Int) < 60 := by omega
      have h5 : (0 : Int) ≤ (i : Int) := by omega
      clear KL HG hcell
      go_wp2_with fail
      refine HD.out.mono ?_
      rintro e w2 ⟨rfl, k2, _⟩
      have KN := Lib.hid (show Kl w w2 noZ b cf cf.ha.toNat from ⟨_, k2, hL.out⟩)
      clear k2 HD hL c0 c1 c2 c3 c4
      go_wp2
      go_roundw
      case rel => exact ⟨i + 1, by omega, by omega, by go_num, KN⟩
      case measure => simp [intOf]; omega
    · have hlt : ((i : Int) < (n : Int) ∧ ¬ ((i : Int) < 60)) ∨ ¬ ((i : Int) < (n : Int)) := by omega
      generalize wr = wo at *
      clear RD hi hi2
      obtain ⟨G, HG, hL⟩ := KL.out
      obtain ⟨ns, x0, x1, r, lg, rfl⟩ := Gr.two (G := G) (by rw [hL]; exact H2.out)
      have K := Lib.hid HG
      have HS := Lib.hid (kg_stats HG)
      clear KL HG hL H2
      simp only at HS
      obtain ⟨m1, hm1⟩ : ∃ m1 : Int, (ns.length : Int) = m1 := ⟨_, rfl⟩
      obtain ⟨m2, hm2⟩ : ∃ m2 : Int, (tot ns : Int) = m2 := ⟨_, rfl⟩
      rw [hm1, hm2] at HS
      have HM := Lib.hid (And.intro hm1 hm2)
      clear hm1 hm2
      rcases hlt with ⟨g1, g2⟩ | g1
      all_goals
        go_wp2_with fail
        refine HS.out.mono ?_
        rintro e w4 ⟨rfl, b4⟩
        have K4 := Lib.hid ((K.out.keep b4).grow (Z' := fun k => k = w4.heap.size) ((Below.refl _ w4).alloc (Nat.le_refl _) (stO8 m1 m2 0 0 0 m2 0 (cf.ps * cf.pz))) (fun k e => .inr ⟨by omega, by subst e; simp⟩))
        have X4 := Lib.hid (Blk.new w4 (stL8 m1 m2 0 0 0 m2 0 (cf.ps * cf.pz)) 31)
        clear b4 HS K
        go_wp2_with fail
        have h := kg_copy K4.out 0 1
        rw [two_copy] at h
        refine h.mono ?_
        rintro e w5 ⟨rfl, k5, p5⟩
        have K5 := Lib.hid k5
        have X5 := Lib.hid (X4.out.kp p5 rfl)
        clear h k5 p5 K4 X4
        go_wp2_with fail
        have h := kg_same K5.out 0 1
        rw [two_same, beq_self_eq_true] at h
        refine h.mono ?_
        rintro e w6 ⟨rfl, rfl⟩
        clear h
        go_wp2_with fail
        have h := kg_nil K5.out 1
        rw [two_nil1] at h
        obtain ⟨nb, hnb⟩ : ∃ nb, (x1 == 0) = nb := ⟨_, rfl⟩
        rw [hnb] at h
        have NB := Lib.hid hnb
        clear hnb
        refine h.mono ?_
        rintro e w6 ⟨rfl, rfl⟩
        clear h
        go_wp2_with fail
        have K5 := K5.out.keep (below_drew w5)
        have X5 := X5.out.drew
        have X5' := X5
        go_region_held3 (fun w' => w'.cell? ⟨w4.heap.size, 0, none⟩ = some (.int .i64 m1) ∧ w'.cell? ⟨w4.heap.size, 1, none⟩ = some (.int .i64 m2) ∧ w'.cell? ⟨w4.heap.size, 2, none⟩ = some (.int .i64 0) ∧ w'.cell? ⟨w4.heap.size, 3, none⟩ = some (.int .i64 0) ∧ w'.cell? ⟨w4.heap.size, 4, none⟩ = some (.int .i64 0) ∧ w'.cell? ⟨w4.heap.size, 5, none⟩ = some (.int .i64 m2) ∧ w'.cell? ⟨w4.heap.size, 6, none⟩ = some (.int .i64 0) ∧ w'.cell? ⟨w4.heap.size, 7, none⟩ = some (.int .i64 (cf.ps * cf.pz))) (exact ⟨X5.cell 0, X5.cell 1, X5.cell 2, X5.cell 3, X5.cell 4, X5.cell 5, X5.cell 6, X5.cell 7⟩) (first
          | (go_at_call 20; have h := kg_stats K5; simp only at h; rw [HM.out.1, HM.out.2] at h; refine h.mono ?_; rintro e v1 ⟨rfl, b2⟩; have K5 := K5.keep b2; have X5 := X5.keep b2; clear b2 h))
        all_goals
          rename_i v1 _ _
          have K6 := Lib.hid K5
          clear K5 X5
          go_wp2_with fail
          have h := kg_clear K6.out 1
          rw [two_clear1] at h
          refine h.mono ?_
          rintro e w7 ⟨rfl, k7, _⟩
          have K7 := Lib.hid k7
          clear h k7 K6
          go_wp2_with fail
          have h := kg_same K7.out 0 1
          rw [two_same, NB.out] at h
          refine h.mono ?_
          rintro e w8 ⟨rfl, rfl⟩
          clear h
          go_wp2
          go_ret
          exact ⟨by simp, K7.out.bel⟩
end Go.Proofs.YthmhehehomieiaaGreat

/- Of no program: region_made_tailR (MdR) for operations that are guarded: one that is not wanted makes nothing. -/
namespace Go.Proofs.YthmhehehomieiaaGreat

section
variable (P : Program) (G : Made → World → Prop) (md : Region.Mode) (ops : Array Oper)
/-- Wherever what the operation waits for was made as m says, it makes something of its kind; or it is not wanted. -/
def makesG (V : Value → Prop) (i : Nat) (o : Oper) (a : Act) (m : Made) : Prop :=
  (Region.wanted o (yielded ops a.tmps) = true ∧ makesR P G md V i o a m) ∨
  (Region.wanted o (yielded ops a.tmps) = false ∧ V undef ∧ ∀ m' w, G m' w → (∀ d, (d = i ∨ ∃ e ∈ o.after, Region.binds md e = true ∧ e.on = d) → m' d = m d) → G (m'.upd i undef) w)

/-- The walk in the order of the text. -/
def wpMadeG (V : Nat → Value → Prop) (T : Act → Made → Prop) : List Oper → Nat → Act → Made → Prop
  | [], _, a, m => T a m
  | o :: rest, k, a, m => makesG P G md ops (V k) k o a m ∧ ∀ v, V k v → wpMadeG V T rest (k + 1) (a.put o.dst v) (m.upd k v)

def mOpG (V : Nat → Value → Prop) (i : Nat) (K : Act → Made → Prop) (a : Act) (m : Made) : Prop :=
  match ops[i]? with
  | none => False
  | some o => makesG P G md ops (V i) i o a m ∧ ∀ v, V i v → K (a.put o.dst v) (m.upd i v)
end

section
variable {P : Program} {G : Made → World → Prop} {md : Region.Mode} {ops : Array Oper} {V : Nat → Value → Prop}

theorem wpOp_of_madeG {i : Nat} {K : Act → Made → Prop} {K' : Act → World → Prop} {Q : Exit → Act → World → Prop} {a : Act} {m : Made} {w : World} (hG : G m w) (h : ∀ a m w, G m w → K a m → K' a w) (hh : mOpG P G md ops V i K a m) : wpOp P ops Q i K' a w := by
  unfold mOpG at hh
  unfold wpOp
  split
  · rename_i ho; rw [ho] at hh; exact hh.elim
  · rename_i o ho
    rw [ho] at hh
    obtain ⟨hm, hk⟩ := hh
    rcases hm with ⟨hw, hm⟩ | ⟨hw, hv, hm⟩
    · rw [if_pos hw]
      refine .inl ?_
      have h3 := hm m w hG fun _ _ => rfl
      unfold Oper.wp
      generalize (execOp a.eval o).run P w = r at *
      cases r with
      | ok n w' =>
        cases n <;> simp only [madeUpon] at h3 <;> simp only [Oper.upon]
        case value u => exact h _ _ _ h3.2 (hk u h3.1)
        case skip => exact h _ _ _ h3.2 (hk _ h3.1)
        case enter f args =>
          refine h3.mono fun e w'' he => ?_
          obtain ⟨u, rfl, hv, hg'⟩ := he
          exact h _ _ _ hg' (hk u hv)
      | halt x w' => simp only [madeUpon] at h3
    · rw [if_neg (by rw [hw]; exact Bool.false_ne_true)]
      exact h _ _ _ (hm m w hG fun _ _ => rfl) (hk _ hv)

theorem makesG_same {V : Value → Prop} {i : Nat} {o : Oper} {a a' : Act} {m m' : Made} (h : execOp a'.eval o = execOp a.eval o) (hw : Region.wanted o (yielded ops a'.tmps) = Region.wanted o (yielded ops a.tmps)) (hm : ∀ d, (d = i ∨ ∃ e ∈ o.after, Region.binds md e = true ∧ e.on = d) → m' d = m d) (k : makesG P G md ops V i o a m) : makesG P G md ops V i o a' m' := by
  unfold makesG at *
  rw [hw]
  refine k.imp (fun k => ⟨k.1, makesR_same h hm k.2⟩) fun k => ⟨k.1, k.2.1, fun m2 w hw ha => k.2.2 m2 w hw fun d hd => (ha d hd).trans (hm d hd)⟩

/-- f operations more come up, each one of the first n, and make something of its kind, whichever is picked; then L. -/
def HeadMG (P : Program) (G : Made → World → Prop) (md : Region.Mode) (ops : Array Oper) (V : Nat → Value → Prop) (n : Nat) (L : Array Bool → Act → Made → Prop) : Nat → Array Bool → Act → Made → Prop
  | 0, done, a, m => L done a m
  | f + 1, done, a, m => Region.ready md ops done ≠ [] ∧ ∀ i ∈ Region.ready md ops done, i < n ∧ mOpG P G md ops V i (HeadMG P G md ops V n L f (done.setIfInBounds i true)) a m

theorem HeadMG.any {n g : Nat} {L : Array Bool → Act → Made → Prop} {Q : Exit → Act → World → Prop} (hL : ∀ done a m w, G m w → L done a m → wpAny P md ops Q g done a w) (f : Nat) :
    ∀ done a m w, G m w → HeadMG P G md ops V n L f done a m → wpAny P md ops Q (f + g) done a w := by
  induction f with
  | zero => intro done a m w hw h; rw [Nat.zero_add]; exact hL done a m w hw h
  | succ f ih =>
    intro done a m w hw h
    rw [Nat.succ_add]
    exact ⟨fun e => absurd e h.1, fun i hi => wpOp_of_madeG hw (fun a' m' w' hw' h' => ih _ a' m' w' hw' h') (h.2 i hi).2⟩

/-- An operation of the head that may come up now may be taken first. -/
theorem HeadMG.first {n i : Nat} {o : Oper} {L : Array Bool → Act → Made → Prop} (hV : ∀ k, ∃ v, V k v) (ho : ops[i]? = some o) (sel : Region.noSelect ops = true)
    (sink : Region.sinkB md ops n = true) (chain : Region.chainB md ops n = true) (hn : n < ops.size) (hin : i < n) (last : ∀ done a m, L done a m → ∀ j ∈ Region.ready md ops done, n ≤ j) (f : Nat) :
    ∀ done a m, HeadInv md ops n done →
      (∀ j oj, ops[j]? = some oj → j ≠ i → done.getD j true = false → (∀ e ∈ oj.after, Region.binds md e = true → e.on ≠ i) → o.apart ops oj = true) →
      i ∈ Region.ready md ops done → makesG P G md ops (V i) i o a m → (∀ v, V i v → HeadMG P G md ops V n L f (done.setIfInBounds i true) (a.put o.dst v) (m.upd i v)) → HeadMG P G md ops V n L (f + 1) done a m := by
  induction f with
  | zero =>
    intro done a m inv _ hr hy H
    refine ⟨List.ne_nil_of_mem hr, fun j hj => ?_⟩
    have hjn : j < n := Nat.lt_of_not_le fun h => tail_waits sink chain hn inv _ i rfl hin (mem_ready.1 hr).1 j h hj
    by_cases e : j = i
    · subst e
      refine ⟨hjn, ?_⟩
      unfold mOpG
      rw [ho]
      exact ⟨hy, H⟩
    · obtain ⟨v, hv⟩ := hV i
      have := last _ _ _ (H v hv) j (ready_mono hj e)
      omega
  | succ f ih =>
    intro done a m inv fr hr hy H
    refine ⟨List.ne_nil_of_mem hr, fun j hj => ?_⟩
    have hjn : j < n := Nat.lt_of_not_le fun h => tail_waits sink chain hn inv _ i rfl hin (mem_ready.1 hr).1 j h hj
    by_cases e : j = i
    · subst e
      refine ⟨hjn, ?_⟩
      unfold mOpG
      rw [ho]
      exact ⟨hy, H⟩
    · obtain ⟨hju, oj, hoj, hall⟩ := mem_ready.1 hj
      have off : ∀ d ∈ oj.after, Region.binds md d = true → d.on ≠ i := fun d hd hb hon => by
        have h1 := hall d hd hb
        rw [hon, getD_both (mem_ready.1 hr).1] at h1
        cases h1
      have agj : ∀ d, (d = j ∨ ∃ x ∈ oj.after, Region.binds md x = true ∧ x.on = d) → d ≠ i := fun d hd => by
        rcases hd with rfl | ⟨x, hx, hb, rfl⟩
        · exact e
        · exact off x hx hb
      obtain ⟨hiu, oi, hoi, halli⟩ := mem_ready.1 hr
      have eoi : oi = o := by rw [ho] at hoi; exact (Option.some.inj hoi).symm
      have agi : ∀ d, (d = i ∨ ∃ x ∈ o.after, Region.binds md x = true ∧ x.on = d) → d ≠ j := fun d hd => by
        rcases hd with rfl | ⟨x, hx, hb, rfl⟩
        · exact Ne.symm e
        · intro hon
          have h1 := halli x (eoi ▸ hx) hb
          rw [hon, getD_both hju] at h1
          cases h1
      have S := Region.noSelect_spec sel
      have ap := fr j oj hoj e hju off
      obtain ⟨a1, a2, a3⟩ := Oper.apart_spec ap
      have H2 : ∀ v, V i v → mOpG P G md ops V j (HeadMG P G md ops V n L f ((done.setIfInBounds i true).setIfInBounds j true)) (a.put o.dst v) (m.upd i v) := fun v hv => ((H v hv).2 j (ready_mono hj e)).2
      obtain ⟨v0, hv0⟩ := hV i
      have H0 := H2 v0 hv0
      refine ⟨hjn, ?_⟩
      unfold mOpG at H0 H2 ⊢
      rw [hoj] at H0 H2 ⊢
      simp only at H0 H2 ⊢
      refine ⟨makesG_same (execOp_put oj (fun cs b => S j oj cs b hoj) a o.dst v0 a1).symm (wanted_put oj a o.dst v0 a1).symm (fun d hd => (Made.upd_ne v0 (agj d hd)).symm) H0.1, fun u hu => ?_⟩
      refine ih _ _ _ (inv.set hj hjn) (fun k ok hk hki hu' hno => fr k ok hk hki ?_ hno) (ready_mono hr (Ne.symm e)) (makesG_same (execOp_put o (fun cs b => S i o cs b ho) a oj.dst u a3) (wanted_put o a oj.dst u a3) (fun d hd => Made.upd_ne u (agi d hd)) hy) fun v hv => ?_
      · by_cases ek : j = k
        · subst ek; exact hju
        · rwa [getD_set_ne true ek] at hu'
      · have := (H2 v hv).2 u hu
        rw [Act.put_comm a v u a2, Made.upd_comm m (Ne.symm e) v u] at this
        rw [Array.setIfInBounds_comm _ _ e]
        exact this

theorem HeadMG.lex {n g : Nat} {T : Act → Made → Prop} (hV : ∀ k, ∃ v, V k v) (sel : Region.noSelect ops = true) (sink : Region.sinkB md ops n = true) (chain : Region.chainB md ops n = true) (hn : n < ops.size) (l : List Oper) :
    ∀ k done a m, (∀ j, j < l.length → l[j]? = ops[k + j]?) → k + l.length = n → HeadInv md ops n done → Region.lexHead md ops g l.length k done = true → wpMadeG P G md ops V T l k a m →
      HeadMG P G md ops V n (fun d a' m' => Region.seqB md ops g n d = true ∧ T a' m') l.length done a m := by
  induction l with
  | nil =>
    intro k done a m _ hk _ hB h
    obtain rfl : k = n := by simpa using hk
    exact ⟨by simpa [Region.lexHead] using hB, h⟩
  | cons o l ih =>
    intro k done a m hl hk inv hB h
    have h0 : ops[k]? = some o := by simpa using (hl 0 (by simp)).symm
    have hkl : k + (l.length + 1) = n := hk
    have hkn : k < n := by omega
    simp only [List.length_cons, Region.lexHead, Bool.and_eq_true] at hB
    have hr : k ∈ Region.ready md ops done := by simpa using hB.1.1
    refine HeadMG.first hV h0 sel sink chain hn hkn (fun d a' m' hL => seqB_ready hL.1) l.length done a m inv (Region.free_spec h0 hB.1.2) hr h.1 fun v hv =>
      ih (k + 1) _ _ _ (fun j hj => ?_) (by omega) (inv.set hr hkn) hB.2 (h.2 v hv)
    have := hl (j + 1) (by simp; omega)
    simpa [Nat.add_assoc, Nat.add_comm 1 j] using this

theorem wpMadeG_step {T : Act → Made → Prop} {o : Oper} {rest : List Oper} {k : Nat} {a : Act} {m : Made} (h : makesG P G md ops (V k) k o a m)
    (h2 : ∀ K : Act → Made → Prop, (∀ a m, wpMadeG P G md ops V T rest (k + 1) a m → K a m) → ∀ v, V k v → K (a.put o.dst v) (m.upd k v)) : wpMadeG P G md ops V T (o :: rest) k a m :=
  ⟨h, fun v hv => h2 _ (fun _ _ h => h) v hv⟩
theorem wpMadeG_nil {T : Act → Made → Prop} {k : Nat} {a : Act} {m : Made} (h : T a m) : wpMadeG P G md ops V T [] k a m := h

/-- The region's head is walked in the order of the text, whatever is made; its tail as it stands. -/
theorem region_made_tailG {id : Nat} {Q : Exit → Act → World → Prop} {a : Act} {w : World} {l : List Oper} (G : Made → World → Prop) (V : Nat → Value → Prop) (n : Nat) (hm : P.follows .mixedOrders = true) (hB : Region.lexTailB .any l.toArray n = true)
    (hV : ∀ k, ∃ v, V k v) (hG : G (fun _ => none) w.drew)
    (h : wpMadeG P G .any l.toArray V (fun a' m => ∀ w', G m w' → wpList P l.toArray Q (l.drop n) a' w') (l.take n) 0 a (fun _ => none)) : (Code.region id l.toArray true).wp P Q a w := by
  simp only [Region.lexTailB, Bool.and_eq_true, decide_eq_true_eq] at hB
  obtain ⟨⟨⟨⟨sel, hn⟩, sink⟩, chain⟩, lex⟩ := hB
  have hn' : n < l.length := by simpa using hn
  have e1 : (l.take n).length = n := by simp; omega
  have e2 : (l.drop n).length = l.toArray.size - n := by simp
  have inv : HeadInv .any l.toArray n (Array.replicate l.toArray.size false) :=
    ⟨by simp, fun j oj _ hj => (by rw [getD_replicate_false] at hj; cases hj), fun t _ ht => getD_in (by simpa using ht) (getD_replicate_false _ _)⟩
  have H := HeadMG.lex (md := .any) (g := l.toArray.size - n) hV sel sink chain hn (l.take n) 0 _ a _ (fun j hj => by
    have : j < n := by omega
    simp [this]) (by simpa using e1) inv (by rw [e1]; exact lex) h
  refine wp_region_any hm ?_
  have R := HeadMG.any (Q := Q) (g := l.toArray.size - n) (fun d a' m' w' hw' hL => by
    have := wpAny_of_seq (md := .any) (Q' := Q) (l.drop n) n d a' w' (fun j => by simp [List.getElem?_drop]) (by rw [e2]; exact hL.1) (hL.2 w' hw')
    rwa [e2] at this) _ _ _ _ { w with drawn := w.drawn + 1 } hG H
  rw [e1, show n + (l.toArray.size - n) = l.toArray.size by omega] at R
  exact R
end
end Go.Proofs.YthmhehehomieiaaGreat

/- What the walks over acts share; the walk of MinorHandles. -/
namespace Go.Proofs.YthmhehehomieiaaGreat
namespace Gc
open Go.RowKit

theorem nb_fresh {c : Cfg} {pt : Pts} : Nb 0 (Co.fresh c pt) := ⟨⟨Int.le_refl _, Int.le_refl _⟩, ⟨Int.le_refl _, Int.le_refl _⟩, ⟨Int.le_refl _, Int.le_refl _⟩⟩

/-- A core, i acts since it was made. -/
def Ml (w0 w : World) (b : Nat) (cf : Cfg) (i : Nat) : Prop := ∃ s A, Km w0 w noZ b s ∧ Cyc s A ∧ s.cf = cf ∧ Nb i s

theorem quA_cell {w : World} {g off n ca i : Nat} {xs : List Int} {x : Int} (h : Qu w (some ⟨g, off, none⟩) n ca xs) (hn : 0 < n) (hx : xs[i]? = some x) : w.cell? ⟨g, off + i, none⟩ = some (.int .i64 x) := by
  obtain ⟨g', off', e, _, hc, _⟩ := h.at_ hn
  cases e
  exact hc i x hx
theorem quA_spot {w : World} {A : Option Addr} {n ca : Nat} {xs : List Int} (h : Qu w A n ca xs) (hn : 0 < n) : ∃ g off, A = some ⟨g, off, none⟩ := by
  obtain ⟨g, off, e, _⟩ := h.at_ hn
  exact ⟨g, off, e⟩

section
variable {w0 w w' : World} {Z : Nat → Prop} {b N c4 : Nat} {s : Co} {A : Hp} {A4 : Option Addr} {x : Int}

/-- A core beside a list of what its handles hold. -/
def HanI (w0 w : World) (b : Nat) (s : Co) (A4 : Option Addr) (N c4 : Nat) : Prop := Km w0 w (fun k => blkOf A4 = some k) b s ∧ Qu w A4 N c4 s.hs

theorem HanI.keep (h : HanI w0 w b s A4 N c4) (f : Below w.heap.size w w') : HanI w0 w' b s A4 N c4 := ⟨h.1.keep f, h.2.keep f⟩

theorem km_all (h : Km w0 w noZ b s) : w.cell? ⟨b, 18, none⟩ = some (htP s.pt.t) ∧ Calls Tryz.prog 21 #[htP s.pt.t] w fun e w' => ∃ A' c', e = .returned (.slice A' s.hs.length c') ∧ HanI w0 w' b s A' s.hs.length c' := by
  obtain ⟨S, hC⟩ := h.cr
  obtain ⟨h1, h2⟩ := tall_co hC
  refine ⟨h1, h2.mono ?_⟩
  rintro e w' ⟨A', c', he, q, bl, fr⟩
  refine ⟨A', c', he, h.grow bl fun k hk => .inr ⟨fr k hk, ?_⟩, q⟩
  rcases q.lies with ⟨rfl, _⟩ | ⟨g, off, cs, rfl, hb, _⟩
  · cases hk
  · cases hk; exact hb.lt

theorem km_c14 (h : Km w0 w Z b s) : w.cell? ⟨b, 14, none⟩ = some (bpP s.pt.y) := let ⟨_, hC⟩ := h.cr; c14_of hC
theorem han_from (h : HanI w0 w b s A4 N c4) (c : Cyc s A) (hx : x ∈ s.hs) : Calls Tryz.prog 56 #[bpP s.pt.y, .int .i64 x] w fun e w' => e = .returned (.bool false) ∧ Below w.heap.size w w' := by
  obtain ⟨S, hC⟩ := h.1.cr
  obtain ⟨ok, nE⟩ := c.held hx
  obtain ⟨P, own, h0, rfl, rfl⟩ := hC
  have e : s.pt.y = P.y := by rw [h0.pts]; rfl
  rw [e]
  have H := bFrom_any _ _ _ _ _ _ w x (h0.prt 2).1
  have z : inH (hAt s.cf.nu 1 (!s.yn)) s.yv x = false := by
    cases z : inH (hAt s.cf.nu 1 (!s.yn)) s.yv x
    · rfl
    · exact absurd ((c.sim.laid.from_iff c.inv ok).1 z) nE
  rw [z] at H
  exact H
theorem han_now (h : HanI w0 w b s A4 N c4) (c : Cyc s A) (hx : x ∈ s.hs) : Calls Tryz.prog 31 #[ptr b, .int .i64 x] w fun e w' => e = .returned (.int .i64 x) ∧ HanI w0 w' b s A4 N c4 := by
  obtain ⟨ok, nE⟩ := c.held hx
  have q := h.2
  refine (h.1.look fun S hC => now_sim hC c.sim c.inv ok).mono ?_
  rintro e w' ⟨he, k, kp⟩
  rw [Hp.now_no nE] at he
  exact ⟨he, k, q.kp kp fun _ e => e⟩
theorem km_left (h : Km w0 w Z b s) (c : Cyc s A) (hm : s.mv = false) : Calls Tryz.prog 51 #[bpP s.pt.y] w fun e w' => e = .returned (.int .i64 0) ∧ Below w.heap.size w w' := by
  obtain ⟨S, hC⟩ := h.cr
  have H := left_at hC
  have : s.yv = 0 := by
    have u := c.sim.laid.he.use
    rw [(c.idle hm).1] at u
    exact u
  rw [this] at H
  exact H
end

def HanV0 (b y g f N c j : Nat) (x : Int) : Nat → Value → Prop
  | 0 => fun v => v = ptr b
  | 1 => fun v => v = ptr b
  | 2 => fun v => v = .pointer (some ⟨b, 14, none⟩)
  | 3 => fun v => v = bpP y
  | 4 => fun v => v = .slice (some ⟨g, f, none⟩) N c
  | 5 => fun v => v = .int .i64 j
  | 6 => fun v => v = .pointer (some ⟨g, f + j, none⟩)
  | 7 => fun v => v = .int .i64 x
  | 8 => fun v => v = .bool false
  | 9 => fun v => v = .bool false
  | 10 => fun v => v = .slice (some ⟨g, f, none⟩) N c
  | 11 => fun v => v = .int .i64 j
  | 12 => fun v => v = .pointer (some ⟨g, f + j, none⟩)
  | 13 => fun v => v = .int .i64 x
  | 14 => fun v => v = .bool false
  | 15 => fun v => v = .bool false
  | 16 => fun v => v = undef
  | 17 => fun v => v = undef
  | 18 => fun v => v = undef
  | 19 => fun v => v = undef
  | 20 => fun v => v = undef
  | 21 => fun v => v = undef
  | 22 => fun v => v = undef
  | 23 => fun v => v = undef
  | 24 => fun v => v = undef
  | 25 => fun v => v = undef
  | 26 => fun v => v = undef
  | 27 => fun v => v = .bool false
  | _ => fun _ => True
theorem HanV0_some (b y g f N c j : Nat) (x : Int) : ∀ i, ∃ v, HanV0 b y g f N c j x i v
  | 0 => ⟨_, rfl⟩
  | 1 => ⟨_, rfl⟩
  | 2 => ⟨_, rfl⟩
  | 3 => ⟨_, rfl⟩
  | 4 => ⟨_, rfl⟩
  | 5 => ⟨_, rfl⟩
  | 6 => ⟨_, rfl⟩
  | 7 => ⟨_, rfl⟩
  | 8 => ⟨_, rfl⟩
  | 9 => ⟨_, rfl⟩
  | 10 => ⟨_, rfl⟩
  | 11 => ⟨_, rfl⟩
  | 12 => ⟨_, rfl⟩
  | 13 => ⟨_, rfl⟩
  | 14 => ⟨_, rfl⟩
  | 15 => ⟨_, rfl⟩
  | 16 => ⟨_, rfl⟩
  | 17 => ⟨_, rfl⟩
  | 18 => ⟨_, rfl⟩
  | 19 => ⟨_, rfl⟩
  | 20 => ⟨_, rfl⟩
  | 21 => ⟨_, rfl⟩
  | 22 => ⟨_, rfl⟩
  | 23 => ⟨_, rfl⟩
  | 24 => ⟨_, rfl⟩
  | 25 => ⟨_, rfl⟩
  | 26 => ⟨_, rfl⟩
  | 27 => ⟨_, rfl⟩
  | _ + 28 => ⟨undef, trivial⟩
def HanV1 (b y g f N c j : Nat) (x : Int) : Nat → Value → Prop
  | 0 => fun v => v = ptr b
  | 1 => fun v => v = ptr b
  | 2 => fun v => v = .pointer (some ⟨b, 14, none⟩)
  | 3 => fun v => v = bpP y
  | 4 => fun v => v = .slice (some ⟨g, f, none⟩) N c
  | 5 => fun v => v = .int .i64 j
  | 6 => fun v => v = .pointer (some ⟨g, f + j, none⟩)
  | 7 => fun v => v = .int .i64 x
  | 8 => fun v => v = .bool false
  | 9 => fun v => v = .bool false
  | 10 => fun v => v = .slice (some ⟨g, f, none⟩) N c
  | 11 => fun v => v = .int .i64 j
  | 12 => fun v => v = .pointer (some ⟨g, f + j, none⟩)
  | 13 => fun v => v = .int .i64 x
  | 14 => fun v => v = .bool true
  | 15 => fun v => v = .bool true
  | 16 => fun v => v = ptr b
  | 17 => fun v => v = .slice (some ⟨g, f, none⟩) N c
  | 18 => fun v => v = .int .i64 j
  | 19 => fun v => v = .pointer (some ⟨g, f + j, none⟩)
  | 20 => fun v => v = .int .i64 x
  | 21 => fun v => v = .int .i64 x
  | 22 => fun v => v = .slice (some ⟨g, f, none⟩) N c
  | 23 => fun v => v = .int .i64 j
  | 24 => fun v => v = .pointer (some ⟨g, f + j, none⟩)
  | 25 => fun v => v = .int .i64 x
  | 26 => fun v => v = .bool false
  | 27 => fun v => v = .bool false
  | _ => fun _ => True
theorem HanV1_some (b y g f N c j : Nat) (x : Int) : ∀ i, ∃ v, HanV1 b y g f N c j x i v
  | 0 => ⟨_, rfl⟩
  | 1 => ⟨_, rfl⟩
  | 2 => ⟨_, rfl⟩
  | 3 => ⟨_, rfl⟩
  | 4 => ⟨_, rfl⟩
  | 5 => ⟨_, rfl⟩
  | 6 => ⟨_, rfl⟩
  | 7 => ⟨_, rfl⟩
  | 8 => ⟨_, rfl⟩
  | 9 => ⟨_, rfl⟩
  | 10 => ⟨_, rfl⟩
  | 11 => ⟨_, rfl⟩
  | 12 => ⟨_, rfl⟩
  | 13 => ⟨_, rfl⟩
  | 14 => ⟨_, rfl⟩
  | 15 => ⟨_, rfl⟩
  | 16 => ⟨_, rfl⟩
  | 17 => ⟨_, rfl⟩
  | 18 => ⟨_, rfl⟩
  | 19 => ⟨_, rfl⟩
  | 20 => ⟨_, rfl⟩
  | 21 => ⟨_, rfl⟩
  | 22 => ⟨_, rfl⟩
  | 23 => ⟨_, rfl⟩
  | 24 => ⟨_, rfl⟩
  | 25 => ⟨_, rfl⟩
  | 26 => ⟨_, rfl⟩
  | 27 => ⟨_, rfl⟩
  | _ + 28 => ⟨undef, trivial⟩

attribute [local go_sem] madeUpon

set_option maxHeartbeats 16000000 in
set_option maxRecDepth 100000 in
theorem minorHandles_walk (a b c d : Int) (ha : By a) (hb : By b) (hc : By c) (hd : By d) (Aq : Option Addr) (n cp : Nat) (w : World) (rd : RdAc w Aq n) (_ : n ≤ cp) (_ : cp ≤ maxLen) :
    Calls Tryz.prog 16 #[.int .u8 a, .int .u8 b, .int .u8 c, .int .u8 d, .slice Aq n cp] w fun e w' => e = .returned (.bool true) ∧ Below w.heap.size w w' := by
  have HC := Lib.hid (config14_any a b c d ha hb hc hd)
  have HM := Lib.hid (cfgOf_may a b c d ha hb hc hd)
  have RD := Lib.hid rd
  clear ha hb hc hd rd
  generalize cfgOf a b c d = cf at *
  go_enter Tryz.func16, Tryz.ntmps16
  go_wp2_with fail
  refine (HC.out _).mono ?_
  rintro e w1 ⟨rfl, b1⟩
  have HN := Lib.hid (km_new (w0 := w) (Z := noZ) HM.out b1 (fun _ e => e.elim))
  clear b1 HC
  go_wp2_with fail
  refine HN.out.mono ?_
  rintro e w2 ⟨b, pt, rfl, k2, _⟩
  have K2 := Lib.hid k2
  clear k2 HN
  go_wp2_with fail
  refine (awake14_walk _).mono ?_
  rintro e w3 ⟨rfl, b3⟩
  have KL : Hid (Ml w w3 b cf 0) := Lib.hid ⟨_, _, K2.out.keep b3, fresh_cyc HM.out pt, rfl, nb_fresh⟩
  clear b3 K2 HM
  go_wp2_with fail
  go_loopw [13] (fun s wr => ∃ (i : Nat), i ≤ n ∧ i ≤ 100 ∧ s = .int .i64 i ∧ Hid (Ml w wr b cf i)) (fun s _ => n - (intOf s).toNat)
  case atStart => exact ⟨0, Nat.zero_le _, Nat.zero_le _, rfl, KL⟩
  case round =>
    clear KL
    obtain ⟨i, hi, hi2, rfl, KL⟩ := hrel
    by_cases hlt : i < n ∧ i < 100
    · obtain ⟨h1, h2⟩ := hlt
      obtain ⟨ad, k, x, p, q, rfl, _, _, iq, hcell⟩ := RD.out i h1
      obtain ⟨s, A, HG, C, ec, nb⟩ := KL.out
      obtain ⟨c0, c1, c2, c3⟩ := hcell _ HG.bel
      have h3 : (i : Int) < (n : Int) := by omega
      have h4 : (i : Int) < 100 := by omega
      have h5 : (0 : Int) ≤ (i : Int) := by omega
      have HD := Lib.hid (do14_any HG C nb (by omega) k x p q iq.2)
      have NB := Lib.hid nb
      have EC := Lib.hid ec
      clear KL HG hcell C nb ec
      go_wp2_with fail
      refine HD.out.mono ?_
      rintro e w4 ⟨s', B, E, rfl, qq, k4, _⟩
      have K4 := Lib.hid k4
      have C4 := Lib.hid qq.cyc
      have N4 := Lib.hid (qq.nb i (by omega) NB.out)
      have E4 := Lib.hid (qq.cf.trans EC.out)
      clear qq k4 HD NB EC c0 c1 c2 c3
      obtain ⟨c18, ha⟩ := km_all K4.out
      have HA := Lib.hid ha
      clear ha K4
      go_wp2_with fail
      refine HA.out.mono ?_
      rintro e w5 ⟨A4, c4, rfl, hi⟩
      have HI := Lib.hid hi
      clear hi HA c18
      obtain ⟨N, NN⟩ : ∃ N, Hid (s'.hs.length = N) := ⟨_, Lib.hid rfl⟩
      have few : Hid (N ≤ 64) := Lib.hid (by obtain ⟨S, hC⟩ := HI.out.1.cr; have := hC.few; rw [NN.out] at this; exact this)
      rw [NN.out] at HI ⊢
      have n64 := few.out
      clear few
      go_wp2_with fail
      generalize wr = wo at *
      go_loopw [15] (fun s15 wr => ∃ (j : Nat), j ≤ N ∧ s15 = .int .i64 j ∧ Hid (HanI w wr b s' A4 N c4)) (fun s15 _ => N - (intOf s15).toNat)
      case atStart => exact ⟨0, Nat.zero_le _, rfl, HI⟩
      case round =>
        clear HI
        obtain ⟨j, hj, rfl, HI⟩ := hrel
        by_cases hlt : j < N
        · obtain ⟨x, hxi⟩ : ∃ x, s'.hs[j]? = some x := ⟨_, List.getElem?_eq_getElem (by rw [NN.out]; exact hlt)⟩
          obtain ⟨gq, off, rfl⟩ := quA_spot HI.out.2 (by omega)
          have MX := Lib.hid (List.mem_of_getElem? hxi)
          have XI := Lib.hid hxi
          have N0 := Lib.hid (show 0 < N by omega)
          have h6 : (j : Int) < (N : Int) := by omega
          have h7 : (0 : Int) ≤ (j : Int) := by omega
          clear hxi
          rcases (show (x != 0) = false ∨ (x != 0) = true by cases (x != 0) <;> simp) with x0 | x0
          · have XB := Lib.hid x0
            clear x0
            go_wp2_with fail
            refine region_made_tailG (fun _ w' => HanI w w' b s' (some ⟨gq, off, none⟩) N c4) (HanV0 b s'.pt.y gq off N c4 j x) 28 (by kernel_rfl) (by kernel_rfl) (HanV0_some _ _ _ _ _ _ _ _) (HI.out.keep (below_drew wr)) ?_
            simp only [List.take_succ_cons, List.take_zero, List.drop_succ_cons, List.drop_zero]
            refine wpMadeG_step ?_ ?_
            · refine .inl ⟨by rfl, ?_⟩
              intro m' w' hg hag
              go_simp
              first | exact rfl | exact ⟨rfl, hg⟩
            intro K hK
            rintro _ rfl
            go_simp
            refine hK _ _ ?_
            clear hK K
            refine wpMadeG_step ?_ ?_
            · refine .inl ⟨by rfl, ?_⟩
              intro m' w' hg hag
              go_simp
              first | exact rfl | exact ⟨rfl, hg⟩
            intro K hK
            rintro _ rfl
            go_simp
            refine hK _ _ ?_
            clear hK K
            refine wpMadeG_step ?_ ?_
            · refine .inl ⟨by rfl, ?_⟩
              intro m' w' hg hag
              go_simp
              first | exact rfl | exact ⟨rfl, hg⟩
            intro K hK
            rintro _ rfl
            go_simp
            refine hK _ _ ?_
            clear hK K
            refine wpMadeG_step ?_ ?_
            · refine .inl ⟨by rfl, ?_⟩
              intro m' w' hg hag
              have q1 := km_c14 hg.1
              go_simp
              first | exact rfl | exact ⟨rfl, hg⟩
            intro K hK
            rintro _ rfl
            go_simp
            refine hK _ _ ?_
            clear hK K
            refine wpMadeG_step ?_ ?_
            · refine .inl ⟨by rfl, ?_⟩
              intro m' w' hg hag
              go_simp
              first | exact rfl | exact ⟨rfl, hg⟩
            intro K hK
            rintro _ rfl
            go_simp
            refine hK _ _ ?_
            clear hK K
            refine wpMadeG_step ?_ ?_
            · refine .inl ⟨by rfl, ?_⟩
              intro m' w' hg hag
              go_simp
              first | exact rfl | exact ⟨rfl, hg⟩
            intro K hK
            rintro _ rfl
            go_simp
            refine hK _ _ ?_
            clear hK K
            refine wpMadeG_step ?_ ?_
            · refine .inl ⟨by rfl, ?_⟩
              intro m' w' hg hag
              go_simp
              first | exact rfl | exact ⟨rfl, hg⟩
            intro K hK
            rintro _ rfl
            go_simp
            refine hK _ _ ?_
            clear hK K
            refine wpMadeG_step ?_ ?_
            · refine .inl ⟨by rfl, ?_⟩
              intro m' w' hg hag
              have q1 := quA_cell hg.2 N0.out XI.out
              go_simp
              first | exact rfl | exact ⟨rfl, hg⟩
            intro K hK
            rintro _ rfl
            go_simp
            refine hK _ _ ?_
            clear hK K
            refine wpMadeG_step ?_ ?_
            · refine .inl ⟨by rfl, ?_⟩
              intro m' w' hg hag
              go_simp
              exact (han_from hg C4.out MX.out).mono fun e w3 ⟨he, b3⟩ => ⟨_, he, rfl, hg.keep b3⟩
            intro K hK
            rintro _ rfl
            go_simp
            refine hK _ _ ?_
            clear hK K
            refine wpMadeG_step ?_ ?_
            · refine .inl ⟨by rfl, ?_⟩
              intro m' w' hg hag
              go_simp
              first | exact rfl | exact ⟨rfl, hg⟩
            intro K hK
            rintro _ rfl
            go_simp
            refine hK _ _ ?_
            clear hK K
            refine wpMadeG_step ?_ ?_
            · refine .inl ⟨by rfl, ?_⟩
              intro m' w' hg hag
              go_simp
              first | exact rfl | exact ⟨rfl, hg⟩
            intro K hK
            rintro _ rfl
            go_simp
            refine hK _ _ ?_
            clear hK K
            refine wpMadeG_step ?_ ?_
            · refine .inl ⟨by rfl, ?_⟩
              intro m' w' hg hag
              go_simp
              first | exact rfl | exact ⟨rfl, hg⟩
            intro K hK
            rintro _ rfl
            go_simp
            refine hK _ _ ?_
            clear hK K
            refine wpMadeG_step ?_ ?_
            · refine .inl ⟨by rfl, ?_⟩
              intro m' w' hg hag
              go_simp
              first | exact rfl | exact ⟨rfl, hg⟩
            intro K hK
            rintro _ rfl
            go_simp
            refine hK _ _ ?_
            clear hK K
            refine wpMadeG_step ?_ ?_
            · refine .inl ⟨by rfl, ?_⟩
              intro m' w' hg hag
              have q1 := quA_cell hg.2 N0.out XI.out
              go_simp
              first | exact rfl | exact ⟨rfl, hg⟩
            intro K hK
            rintro _ rfl
            go_simp
            refine hK _ _ ?_
            clear hK K
            refine wpMadeG_step ?_ ?_
            · refine .inl ⟨by rfl, ?_⟩
              intro m' w' hg hag
              go_simp
              first | (show Value.bool _ = Value.bool _; rw [XB.out]) | exact ⟨by rw [XB.out], hg⟩
            intro K hK
            rintro _ rfl
            go_simp
            refine hK _ _ ?_
            clear hK K
            refine wpMadeG_step ?_ ?_
            · refine .inl ⟨by rfl, ?_⟩
              intro m' w' hg hag
              go_simp
              first | exact rfl | exact ⟨rfl, hg⟩
            intro K hK
            rintro _ rfl
            go_simp
            refine hK _ _ ?_
            clear hK K
            refine wpMadeG_step ?_ ?_
            · exact .inr ⟨by rfl, rfl, fun m' w' hg _ => hg⟩
            intro K hK
            rintro _ rfl
            go_simp
            refine hK _ _ ?_
            clear hK K
            refine wpMadeG_step ?_ ?_
            · exact .inr ⟨by rfl, rfl, fun m' w' hg _ => hg⟩
            intro K hK
            rintro _ rfl
            go_simp
            refine hK _ _ ?_
            clear hK K
            refine wpMadeG_step ?_ ?_
            · exact .inr ⟨by rfl, rfl, fun m' w' hg _ => hg⟩
            intro K hK
            rintro _ rfl
            go_simp
            refine hK _ _ ?_
            clear hK K
            refine wpMadeG_step ?_ ?_
            · exact .inr ⟨by rfl, rfl, fun m' w' hg _ => hg⟩
            intro K hK
            rintro _ rfl
            go_simp
            refine hK _ _ ?_
            clear hK K
            refine wpMadeG_step ?_ ?_
            · exact .inr ⟨by rfl, rfl, fun m' w' hg _ => hg⟩
            intro K hK
            rintro _ rfl
            go_simp
            refine hK _ _ ?_
            clear hK K
            refine wpMadeG_step ?_ ?_
            · exact .inr ⟨by rfl, rfl, fun m' w' hg _ => hg⟩
            intro K hK
            rintro _ rfl
            go_simp
            refine hK _ _ ?_
            clear hK K
            refine wpMadeG_step ?_ ?_
            · exact .inr ⟨by rfl, rfl, fun m' w' hg _ => hg⟩
            intro K hK
            rintro _ rfl
            go_simp
            refine hK _ _ ?_
            clear hK K
            refine wpMadeG_step ?_ ?_
            · exact .inr ⟨by rfl, rfl, fun m' w' hg _ => hg⟩
            intro K hK
            rintro _ rfl
            go_simp
            refine hK _ _ ?_
            clear hK K
            refine wpMadeG_step ?_ ?_
            · exact .inr ⟨by rfl, rfl, fun m' w' hg _ => hg⟩
            intro K hK
            rintro _ rfl
            go_simp
            refine hK _ _ ?_
            clear hK K
            refine wpMadeG_step ?_ ?_
            · exact .inr ⟨by rfl, rfl, fun m' w' hg _ => hg⟩
            intro K hK
            rintro _ rfl
            go_simp
            refine hK _ _ ?_
            clear hK K
            refine wpMadeG_step ?_ ?_
            · exact .inr ⟨by rfl, rfl, fun m' w' hg _ => hg⟩
            intro K hK
            rintro _ rfl
            go_simp
            refine hK _ _ ?_
            clear hK K
            refine wpMadeG_step ?_ ?_
            · refine .inl ⟨by rfl, ?_⟩
              intro m' w' hg hag
              go_simp
              first | exact rfl | exact ⟨rfl, hg⟩
            intro K hK
            rintro _ rfl
            go_simp
            refine hK _ _ ?_
            clear hK K
            refine wpMadeG_nil ?_
            intro w' hg
            have KN := Lib.hid hg
            clear hg HI
            go_wp2
            go_roundw
            case rel => exact ⟨j + 1, by omega, by go_num, KN⟩
            case measure => simp [intOf]; omega
          · have XB := Lib.hid x0
            clear x0
            go_wp2_with fail
            refine region_made_tailG (fun _ w' => HanI w w' b s' (some ⟨gq, off, none⟩) N c4) (HanV1 b s'.pt.y gq off N c4 j x) 28 (by kernel_rfl) (by kernel_rfl) (HanV1_some _ _ _ _ _ _ _ _) (HI.out.keep (below_drew wr)) ?_
            simp only [List.take_succ_cons, List.take_zero, List.drop_succ_cons, List.drop_zero]
            refine wpMadeG_step ?_ ?_
            · refine .inl ⟨by rfl, ?_⟩
              intro m' w' hg hag
              go_simp
              first | exact rfl | exact ⟨rfl, hg⟩
            intro K hK
            rintro _ rfl
            go_simp
            refine hK _ _ ?_
            clear hK K
            refine wpMadeG_step ?_ ?_
            · refine .inl ⟨by rfl, ?_⟩
              intro m' w' hg hag
              go_simp
              first | exact rfl | exact ⟨rfl, hg⟩
            intro K hK
            rintro _ rfl
            go_simp
            refine hK _ _ ?_
            clear hK K
            refine wpMadeG_step ?_ ?_
            · refine .inl ⟨by rfl, ?_⟩
              intro m' w' hg hag
              go_simp
              first | exact rfl | exact ⟨rfl, hg⟩
            intro K hK
            rintro _ rfl
            go_simp
            refine hK _ _ ?_
            clear hK K
            refine wpMadeG_step ?_ ?_
            · refine .inl ⟨by rfl, ?_⟩
              intro m' w' hg hag
              have q1 := km_c14 hg.1
              go_simp
              first | exact rfl | exact ⟨rfl, hg⟩
            intro K hK
            rintro _ rfl
            go_simp
            refine hK _ _ ?_
            clear hK K
            refine wpMadeG_step ?_ ?_
            · refine .inl ⟨by rfl, ?_⟩
              intro m' w' hg hag
              go_simp
              first | exact rfl | exact ⟨rfl, hg⟩
            intro K hK
            rintro _ rfl
            go_simp
            refine hK _ _ ?_
            clear hK K
            refine wpMadeG_step ?_ ?_
            · refine .inl ⟨by rfl, ?_⟩
              intro m' w' hg hag
              go_simp
              first | exact rfl | exact ⟨rfl, hg⟩
            intro K hK
            rintro _ rfl
            go_simp
            refine hK _ _ ?_
            clear hK K
            refine wpMadeG_step ?_ ?_
            · refine .inl ⟨by rfl, ?_⟩
              intro m' w' hg hag
              go_simp
              first | exact rfl | exact ⟨rfl, hg⟩
            intro K hK
            rintro _ rfl
            go_simp
            refine hK _ _ ?_
            clear hK K
            refine wpMadeG_step ?_ ?_
            · refine .inl ⟨by rfl, ?_⟩
              intro m' w' hg hag
              have q1 := quA_cell hg.2 N0.out XI.out
              go_simp
              first | exact rfl | exact ⟨rfl, hg⟩
            intro K hK
            rintro _ rfl
            go_simp
            refine hK _ _ ?_
            clear hK K
            refine wpMadeG_step ?_ ?_
            · refine .inl ⟨by rfl, ?_⟩
              intro m' w' hg hag
              go_simp
              exact (han_from hg C4.out MX.out).mono fun e w3 ⟨he, b3⟩ => ⟨_, he, rfl, hg.keep b3⟩
            intro K hK
            rintro _ rfl
            go_simp
            refine hK _ _ ?_
            clear hK K
            refine wpMadeG_step ?_ ?_
            · refine .inl ⟨by rfl, ?_⟩
              intro m' w' hg hag
              go_simp
              first | exact rfl | exact ⟨rfl, hg⟩
            intro K hK
            rintro _ rfl
            go_simp
            refine hK _ _ ?_
            clear hK K
            refine wpMadeG_step ?_ ?_
            · refine .inl ⟨by rfl, ?_⟩
              intro m' w' hg hag
              go_simp
              first | exact rfl | exact ⟨rfl, hg⟩
            intro K hK
            rintro _ rfl
            go_simp
            refine hK _ _ ?_
            clear hK K
            refine wpMadeG_step ?_ ?_
            · refine .inl ⟨by rfl, ?_⟩
              intro m' w' hg hag
              go_simp
              first | exact rfl | exact ⟨rfl, hg⟩
            intro K hK
            rintro _ rfl
            go_simp
            refine hK _ _ ?_
            clear hK K
            refine wpMadeG_step ?_ ?_
            · refine .inl ⟨by rfl, ?_⟩
              intro m' w' hg hag
              go_simp
              first | exact rfl | exact ⟨rfl, hg⟩
            intro K hK
            rintro _ rfl
            go_simp
            refine hK _ _ ?_
            clear hK K
            refine wpMadeG_step ?_ ?_
            · refine .inl ⟨by rfl, ?_⟩
              intro m' w' hg hag
              have q1 := quA_cell hg.2 N0.out XI.out
              go_simp
              first | exact rfl | exact ⟨rfl, hg⟩
            intro K hK
            rintro _ rfl
            go_simp
            refine hK _ _ ?_
            clear hK K
            refine wpMadeG_step ?_ ?_
            · refine .inl ⟨by rfl, ?_⟩
              intro m' w' hg hag
              go_simp
              first | (show Value.bool _ = Value.bool _; rw [XB.out]) | exact ⟨by rw [XB.out], hg⟩
            intro K hK
            rintro _ rfl
            go_simp
            refine hK _ _ ?_
            clear hK K
            refine wpMadeG_step ?_ ?_
            · refine .inl ⟨by rfl, ?_⟩
              intro m' w' hg hag
              go_simp
              first | exact rfl | exact ⟨rfl, hg⟩
            intro K hK
            rintro _ rfl
            go_simp
            refine hK _ _ ?_
            clear hK K
            refine wpMadeG_step ?_ ?_
            · refine .inl ⟨by rfl, ?_⟩
              intro m' w' hg hag
              go_simp
              first | exact rfl | exact ⟨rfl, hg⟩
            intro K hK
            rintro _ rfl
            go_simp
            refine hK _ _ ?_
            clear hK K
            refine wpMadeG_step ?_ ?_
            · refine .inl ⟨by rfl, ?_⟩
              intro m' w' hg hag
              go_simp
              first | exact rfl | exact ⟨rfl, hg⟩
            intro K hK
            rintro _ rfl
            go_simp
            refine hK _ _ ?_
            clear hK K
            refine wpMadeG_step ?_ ?_
            · refine .inl ⟨by rfl, ?_⟩
              intro m' w' hg hag
              go_simp
              first | exact rfl | exact ⟨rfl, hg⟩
            intro K hK
            rintro _ rfl
            go_simp
            refine hK _ _ ?_
            clear hK K
            refine wpMadeG_step ?_ ?_
            · refine .inl ⟨by rfl, ?_⟩
              intro m' w' hg hag
              go_simp
              first | exact rfl | exact ⟨rfl, hg⟩
            intro K hK
            rintro _ rfl
            go_simp
            refine hK _ _ ?_
            clear hK K
            refine wpMadeG_step ?_ ?_
            · refine .inl ⟨by rfl, ?_⟩
              intro m' w' hg hag
              have q1 := quA_cell hg.2 N0.out XI.out
              go_simp
              first | exact rfl | exact ⟨rfl, hg⟩
            intro K hK
            rintro _ rfl
            go_simp
            refine hK _ _ ?_
            clear hK K
            refine wpMadeG_step ?_ ?_
            · refine .inl ⟨by rfl, ?_⟩
              intro m' w' hg hag
              go_simp
              exact (han_now hg C4.out MX.out).mono fun e w3 ⟨he, h3⟩ => ⟨_, he, rfl, h3⟩
            intro K hK
            rintro _ rfl
            go_simp
            refine hK _ _ ?_
            clear hK K
            refine wpMadeG_step ?_ ?_
            · refine .inl ⟨by rfl, ?_⟩
              intro m' w' hg hag
              go_simp
              first | exact rfl | exact ⟨rfl, hg⟩
            intro K hK
            rintro _ rfl
            go_simp
            refine hK _ _ ?_
            clear hK K
            refine wpMadeG_step ?_ ?_
            · refine .inl ⟨by rfl, ?_⟩
              intro m' w' hg hag
              go_simp
              first | exact rfl | exact ⟨rfl, hg⟩
            intro K hK
            rintro _ rfl
            go_simp
            refine hK _ _ ?_
            clear hK K
            refine wpMadeG_step ?_ ?_
            · refine .inl ⟨by rfl, ?_⟩
              intro m' w' hg hag
              go_simp
              first | exact rfl | exact ⟨rfl, hg⟩
            intro K hK
            rintro _ rfl
            go_simp
            refine hK _ _ ?_
            clear hK K
            refine wpMadeG_step ?_ ?_
            · refine .inl ⟨by rfl, ?_⟩
              intro m' w' hg hag
              have q1 := quA_cell hg.2 N0.out XI.out
              go_simp
              first | exact rfl | exact ⟨rfl, hg⟩
            intro K hK
            rintro _ rfl
            go_simp
            refine hK _ _ ?_
            clear hK K
            refine wpMadeG_step ?_ ?_
            · refine .inl ⟨by rfl, ?_⟩
              intro m' w' hg hag
              go_simp
              first | (show Value.bool _ = Value.bool _; simp) | exact ⟨by simp, hg⟩
            intro K hK
            rintro _ rfl
            go_simp
            refine hK _ _ ?_
            clear hK K
            refine wpMadeG_step ?_ ?_
            · refine .inl ⟨by rfl, ?_⟩
              intro m' w' hg hag
              go_simp
              first | exact rfl | exact ⟨rfl, hg⟩
            intro K hK
            rintro _ rfl
            go_simp
            refine hK _ _ ?_
            clear hK K
            refine wpMadeG_nil ?_
            intro w' hg
            have KN := Lib.hid hg
            clear hg HI
            go_wp2
            go_roundw
            case rel => exact ⟨j + 1, by omega, by go_num, KN⟩
            case measure => simp [intOf]; omega
        · have h6 : ¬ ((j : Int) < (N : Int)) := by omega
          have K := HI.out.1.grow (Z' := noZ) (Below.refl _ _) fun _ e => e.elim
          have c21 := km_moving K
          cases hm : s'.mv
          · have c14 := km_c14 K
            have HL := Lib.hid (km_left K C4.out hm)
            rw [hm] at c21
            have K6 := Lib.hid K
            clear K HI
            go_wp2_with fail
            refine HL.out.mono ?_
            rintro e v1 ⟨rfl, b6⟩
            have KN : Hid (Ml w v1 b cf (i + 1)) := Lib.hid ⟨s', B, K6.out.keep b6, C4.out, E4.out, N4.out⟩
            clear b6 HL K6 c14 c21
            go_wp2
            go_roundw
            case rel => exact ⟨i + 1, by omega, by omega, by go_num, KN⟩
            case measure => simp [intOf]; omega
          · rw [hm] at c21
            have KN : Hid (Ml w wr b cf (i + 1)) := Lib.hid ⟨s', B, K, C4.out, E4.out, N4.out⟩
            clear K HI
            go_wp2
            go_roundw
            case rel => exact ⟨i + 1, by omega, by omega, by go_num, KN⟩
            case measure => simp [intOf]; omega
    · have hlt : ((i : Int) < (n : Int) ∧ ¬ ((i : Int) < 100)) ∨ ¬ ((i : Int) < (n : Int)) := by omega
      obtain ⟨s, A, K, _⟩ := KL.out
      have BE := Lib.hid K.bel
      clear K KL RD hi hi2
      rcases hlt with ⟨g1, g2⟩ | g1
      all_goals
        go_wp2
        go_ret
        exact ⟨rfl, BE.out⟩
end Gc
end Go.Proofs.YthmhehehomieiaaGreat

/- Runs: steps till so much is done; minor.Run. -/
namespace Go.Proofs.YthmhehehomieiaaGreat
namespace Gc
open Go.RowKit

/-- m steps of a run, so far d words; is there more? -/
inductive RunD (s : Co) (A : Hp) (work : Int) : Nat → Int → Bool → Co → Hp → Prop
  | zero : RunD s A work 0 0 true s A
  | succ {m : Nat} {d n : Int} {y : Bool} {t u : Co} {B C : Hp} : RunD s A work m d true t B → d < work → StepD t B u C n y → RunD s A work (m + 1) (d + n) y u C

section
variable {s t t' : Co} {A B B' : Hp} {work d d' : Int} {m m' : Nat} {y y' : Bool}

theorem RunD.re (r : RunD s A work m d y t B) (P : Pts) : RunD (s.re P) A work m d y (t.re P) B := by
  induction r with
  | zero => exact .zero
  | succ _ h q ih => exact .succ ih h (q.re P)
theorem RunD.one (r : RunD s A work m d y t B) : ∀ {d' : Int} {y' : Bool} {t' : Co} {B' : Hp}, RunD s A work m d' y' t' B' → d' = d ∧ y' = y ∧ t' = t ∧ B' = B := by
  induction r with
  | zero => intro d' y' t' B' k; cases k; exact ⟨rfl, rfl, rfl, rfl⟩
  | succ _ _ q ih =>
    intro d' y' t' B' k
    cases k with
    | succ k1 _ q' =>
      obtain ⟨rfl, _, rfl, rfl⟩ := ih k1
      obtain ⟨rfl, rfl, rfl, rfl⟩ := q.one q'
      exact ⟨rfl, rfl, rfl, rfl⟩
theorem RunD.pre (r : RunD s A work m d y t B) : ∀ {m' : Nat}, m' < m → ∃ d' t' B', RunD s A work m' d' true t' B' ∧ d' < work := by
  induction r with
  | zero => intro m' h; exact absurd h (Nat.not_lt_zero _)
  | @succ m d n y t u B C r h _ ih =>
    intro m' hm
    by_cases e : m' = m
    · subst e
      exact ⟨d, t, B, r, h⟩
    · exact ih (by omega)
theorem RunD.fin (r : RunD s A work m d y t B) (k : RunD s A work m' d' y' t' B') (h : y = false ∨ ¬ d < work) (h' : y' = false ∨ ¬ d' < work) : d' = d ∧ t' = t ∧ B' = B := by
  rcases Nat.lt_trichotomy m m' with e | e | e
  · obtain ⟨d2, t2, B2, r2, l2⟩ := k.pre e
    obtain ⟨rfl, rfl, rfl, rfl⟩ := r.one r2
    rcases h with z | z
    · cases z
    · exact absurd l2 z
  · subst e
    obtain ⟨h1, _, h2, h3⟩ := r.one k
    exact ⟨h1, h2, h3⟩
  · obtain ⟨d2, t2, B2, r2, l2⟩ := r.pre e
    obtain ⟨rfl, rfl, rfl, rfl⟩ := k.one r2
    rcases h' with z | z
    · cases z
    · exact absurd l2 z

/-- How a run ends. -/
def FinD (s : Co) (A : Hp) (work d : Int) (t : Co) (B : Hp) : Prop :=
  (s.mv = false ∧ d = 0 ∧ t = s ∧ B = A) ∨ (s.mv = true ∧ ∃ m y, RunD s A work m d y t B ∧ (y = false ∨ ¬ d < work))
theorem FinD.re (r : FinD s A work d t B) (P : Pts) : FinD (s.re P) A work d (t.re P) B := by
  rcases r with ⟨h, hd, rfl, hB⟩ | ⟨h, m, y, r, hf⟩
  · exact .inl ⟨h, hd, rfl, hB⟩
  · exact .inr ⟨h, m, y, r.re P, hf⟩
theorem FinD.one (r : FinD s A work d t B) (k : FinD s A work d' t' B') : d' = d ∧ t' = t ∧ B' = B := by
  rcases r with ⟨h, rfl, rfl, rfl⟩ | ⟨h, m, y, r, hf⟩
  · rcases k with ⟨_, rfl, rfl, rfl⟩ | ⟨h', _⟩
    · exact ⟨rfl, rfl, rfl⟩
    · rw [h] at h'; cases h'
  · rcases k with ⟨h', _⟩ | ⟨_, m', y', r', hf'⟩
    · rw [h] at h'; cases h'
    · exact r.fin r' hf hf'

variable {w0 w w1 w' : World} {Z : Nat → Prop} {b : Nat} {L : Nat}

/-- Within a run. -/
def RnI (w0 w1 w : World) (Z : Nat → Prop) (b : Nat) (s : Co) (A : Hp) (work : Int) (L m : Nat) (d : Int) (y : Bool) : Prop :=
  ∃ t B, Km w0 w Z b t ∧ Kp Z w1 w ∧ Cyc t B ∧ t.cf = s.cf ∧ RunD s A work m d y t B ∧ (0 ≤ d ∧ d ≤ 300001 * m) ∧ (s.mv = true → y = true → left_ t B + m ≤ L) ∧ (s.mv = true → t.mv = y) ∧ (s.mv = false → t = s ∧ B = A ∧ d = 0 ∧ (y = true → m = 0)) ∧ m ≤ L + 1

theorem rn_start (k : Km w0 w Z b s) (c : Cyc s A) (h : left_ s A ≤ L) : RnI w0 w w Z b s A work L 0 0 true :=
  ⟨s, A, k, Frm.refl _ _, c, rfl, .zero, ⟨Int.le_refl _, by omega⟩, fun _ _ => by omega, fun e => e, fun _ => ⟨rfl, rfl, rfl, fun _ => rfl⟩, by omega⟩
theorem RnI.few (h : RnI w0 w1 w Z b s A work L m d y) : m ≤ L + 1 ∧ 0 ≤ d ∧ d ≤ 300001 * m := by
  obtain ⟨t, B, _, _, _, _, _, hd, _, _, _, hm⟩ := h
  exact ⟨hm, hd⟩
theorem RnI.moving (h : RnI w0 w1 w Z b s A work L m d y) : w.cell? ⟨b, 21, none⟩ = some (.bool (s.mv && y)) := by
  obtain ⟨t, B, k, _, _, _, _, _, _, h1, h2, _⟩ := h
  have e : t.mv = (s.mv && y) := by
    cases hm : s.mv
    · rw [(h2 hm).1, hm]; rfl
    · rw [h1 hm]; rfl
  rw [← e]
  exact km_moving k
theorem RnI.step (h : RnI w0 w1 w Z b s A work L m d true) (hw : d < work) :
    Calls Tryz.prog 50 #[ptr b] w fun e w' => ∃ n y, e = .returned (.tuple #[.int .i64 n, .bool y]) ∧ 0 ≤ n ∧ n ≤ 300001 ∧ (y = true → 1 ≤ n) ∧ RnI w0 w1 w' Z b s A work L (m + 1) (d + n) y := by
  obtain ⟨t, B, k, p1, c, ec, r, hd, hl, hm1, hm0, hm⟩ := h
  refine (km_step k c).mono ?_
  rintro e w' ⟨t', B', n, y, he, q, k2, p2⟩
  cases hs : s.mv
  · obtain ⟨rfl, rfl, rfl, hm'⟩ := hm0 hs
    obtain ⟨rfl, rfl, rfl⟩ := q.no hs
    have ey : y = false := q.mv.symm.trans hs
    subst ey
    have m0 := hm' rfl
    refine ⟨0, false, he, Int.le_refl _, by omega, fun e => (by cases e), _, _, k2, p1.trans p2, c, rfl, r.succ hw q.det, by omega, fun e => by (rw [hs] at e; cases e), fun e => by (rw [hs] at e; cases e), fun _ => ⟨rfl, rfl, rfl, fun e => by cases e⟩, by omega⟩
  · have ht := hm1 hs
    obtain ⟨n1, n2, q1, _⟩ := q.yes ht
    have l1 := hl hs rfl
    refine ⟨n, y, he, by omega, n2, fun _ => n1, t', B', k2, p1.trans p2, q.cyc, q.cf.trans ec, r.succ hw q.det, by omega, fun _ e => by have := (q1 e).1; omega, fun _ => q.mv, fun e => by (rw [hs] at e; cases e), by omega⟩
theorem RnI.done (h : RnI w0 w1 w Z b s A work L m d y) (hf : y = false ∨ ¬ d < work) : ∃ t B, Km w0 w Z b t ∧ Kp Z w1 w ∧ Cyc t B ∧ t.cf = s.cf ∧ FinD s A work d t B := by
  obtain ⟨t, B, k, p1, c, ec, r, _, _, _, h0, _⟩ := h
  refine ⟨t, B, k, p1, c, ec, ?_⟩
  cases hs : s.mv
  · obtain ⟨rfl, rfl, rfl, _⟩ := h0 hs
    exact .inl ⟨hs, rfl, rfl, rfl⟩
  · exact .inr ⟨hs, m, y, r, hf⟩
/-- A loop that asks whether a cycle goes on. -/
theorem RnI.still (h : RnI w0 w1 w Z b s A work L m d true) (hm : s.mv = false) : ∃ t B, Km w0 w Z b t ∧ Kp Z w1 w ∧ Cyc t B ∧ t.cf = s.cf ∧ FinD s A work d t B := by
  obtain ⟨t, B, k, p1, c, ec, r, _, _, _, h0, _⟩ := h
  obtain ⟨rfl, rfl, rfl, _⟩ := h0 hm
  exact ⟨_, _, k, p1, c, ec, .inl ⟨hm, rfl, rfl, rfl⟩⟩

def more1 : Value → Nat
  | .bool true => 1
  | _ => 0

set_option maxHeartbeats 2000000 in
theorem run_any (k : Km w0 w Z b s) (c : Cyc s A) (h : left_ s A ≤ 1000) (work : Int) :
    Calls Tryz.prog 55 #[ptr b, .int .i64 work] w fun e w' => ∃ d, e = .returned (.int .i64 d) ∧ 0 ≤ d ∧ d ≤ 300600000 ∧ ∃ t B, Km w0 w' Z b t ∧ Kp Z w w' ∧ Cyc t B ∧ t.cf = s.cf ∧ FinD s A work d t B := by
  have R0 := Lib.hid (rn_start (work := work) k c h)
  clear k c h
  go_enter Tryz.func55, Tryz.ntmps55
  go_wp2_with fail
  go_loopw [5, 6] (fun s5 s6 wr => ∃ (m : Nat) (d : Int) (y : Bool), m ≤ 1001 ∧ s5 = .int .i64 d ∧ s6 = .bool y ∧ Hid (RnI w0 w wr Z b s A work 1000 m d y)) (fun s5 s6 _ => 2 * (300600001 - (intOf s5).toNat) + more1 s6)
  case atStart => exact ⟨0, 0, true, by omega, rfl, rfl, R0⟩
  case round =>
    clear R0
    obtain ⟨m, d, y, hm, rfl, rfl, R⟩ := hrel
    obtain ⟨_, d0, d1⟩ := R.out.few
    have dd : d ≤ 300600000 := by omega
    cases y
    · have RE := Lib.hid (R.out.done (.inl rfl))
      clear R
      go_wp2
      go_ret
      obtain ⟨t, B, h1, h2, h3, h4, h5⟩ := RE.out
      first | exact ⟨d, rfl, d0, dd, t, B, h1, h2, h3, h4, h5⟩ | exact ⟨d, rfl, d0, dd, t, h1, h2, B, h3, h4, h5⟩
    · by_cases hlt : d < work
      · have HS := Lib.hid (R.out.step hlt)
        clear R
        go_wp2_with fail
        refine HS.out.mono ?_
        rintro e w3 ⟨n, y, rfl, n0, n1, hy, rn⟩
        have RN := Lib.hid rn
        have hw : IntKind.i64.wrap (d + n) = d + n := IntWalk.i64_in _ (by omega)
        have hm2 : m + 1 ≤ 1001 := rn.few.1
        have dn := rn.few.2.2
        clear rn HS
        go_wp2
        go_roundw
        case rel => exact ⟨m + 1, d + n, y, hm2, by rw [← hw], rfl, RN⟩
        case measure =>
          cases y
          · simp [intOf, more1] <;> omega
          · have := hy rfl
            simp [intOf, more1] <;> omega
      · have RE := Lib.hid (R.out.done (.inr hlt))
        clear R
        go_wp2
        go_ret
        obtain ⟨t, B, h1, h2, h3, h4, h5⟩ := RE.out
        first | exact ⟨d, rfl, d0, dd, t, B, h1, h2, h3, h4, h5⟩ | exact ⟨d, rfl, d0, dd, t, h1, h2, B, h3, h4, h5⟩ | exact ⟨d0, dd, t, h1, h2, B, h3, h4, h5⟩
end
end Gc
end Go.Proofs.YthmhehehomieiaaGreat

/- The walk of MinorEnds. -/
namespace Go.Proofs.YthmhehehomieiaaGreat
namespace Gc
open Go.RowKit

section
variable {w0 w w' : World} {Z : Nat → Prop} {b : Nat} {s : Co} {A : Hp} {S : Nat → Prop}

/-- How much is left is little. -/
theorem left_few (hC : Cr w b S s) (c : Cyc s A) : (left_ s A : Int) ≤ 2 * s.cf.nu + s.cf.bf + s.cf.ps * s.cf.pz + 1 := by
  have few := c.sim.few
  have hu := c.sim.laid.used
  have h2 := few_sum (A := A) A.F fun q hq => (c.inv.dom q).2 (.inl hq)
  have h3 := c.sim.laid.hf.use
  obtain ⟨P, own, h0, rfl, rfl⟩ := hC
  obtain ⟨p, hp, ho⟩ := h0.prt 4
  obtain ⟨mb, ht, _⟩ := hp.look.tab
  obtain ⟨Ab, cb, hb, _⟩ := hp.look.buf
  have f1 := hb.few
  have m := marks_in ht.w0 ht.w1 ht.c0
  have ml := ht.len
  have mx : (s.cf.ps * s.cf.pz + s.cf.cd - 1) / s.cf.cd ≤ s.cf.ps * s.cf.pz + 1 := by
    have c0 := ht.c0
    have w0 := ht.w0
    have e := m.2.2.2
    have q0 := m.1
    generalize (s.cf.ps * s.cf.pz + s.cf.cd - 1) / s.cf.cd = q at *
    generalize s.cf.ps * s.cf.pz = W at *
    by_cases z : q ≤ 1
    · omega
    · have k1 : (q - 1) * 1 ≤ (q - 1) * s.cf.cd := Int.mul_le_mul_of_nonneg_left (by omega) (by omega)
      have k2 : q * s.cf.cd = (q - 1) * s.cf.cd + s.cf.cd := by rw [Int.sub_mul, Int.one_mul]; omega
      omega
  have cl := List.count_le_length (a := true) (l := s.rm)
  unfold left_
  omega

/-- The cycle is finished: so far i steps. -/
def FinI (w0 w : World) (b wb : Nat) (cf : Cfg) (m0 t0 : Int) (L : Nat) (mv0 : Bool) (i : Nat) (mv : Bool) : Prop :=
  ∃ s A, Km w0 w (fun k => k = wb) b s ∧ Cyc s A ∧ s.cf = cf ∧ s.mv = mv ∧ s.tot ≤ t0 ∧ (mv = true → mv0 = true ∧ left_ s A + i ≤ L ∧ s.d.mi = m0) ∧ (mv = false → s.d.mi = if mv0 = true then m0 + 1 else m0)

section
variable {wb : Nat} {cf : Cfg} {m0 t0 : Int} {L i : Nat} {mv0 mv : Bool}
theorem FinI.moving (h : FinI w0 w b wb cf m0 t0 L mv0 i mv) : w.cell? ⟨b, 21, none⟩ = some (.bool mv) := by
  obtain ⟨s, A, k, _, _, rfl, _⟩ := h
  exact km_moving k
theorem FinI.few (h : FinI w0 w b wb cf m0 t0 L mv0 i true) : i ≤ L := by
  obtain ⟨s, A, k, _, _, _, _, h1, _⟩ := h
  have := (h1 rfl).2.1
  omega
theorem FinI.step (h : FinI w0 w b wb cf m0 t0 L mv0 i true) (hm0 : 0 ≤ m0) (hm1 : m0 ≤ 1000000) :
    Calls Tryz.prog 50 #[ptr b] w fun e w' => ∃ n y, e = .returned (.tuple #[.int .i64 n, .bool y]) ∧ 1 ≤ n ∧ FinI w0 w' b wb cf m0 t0 L mv0 (i + 1) y ∧ Kp (fun k => k = wb) w w' := by
  obtain ⟨s, A, k, c, e1, hm, t1, h1, _⟩ := h
  obtain ⟨h0, h1, h2⟩ := h1 rfl
  refine (km_step k c).mono ?_
  rintro e w' ⟨s', B, n, y, he, q, k2, p2⟩
  obtain ⟨n1, _, q1, q2⟩ := q.yes hm
  refine ⟨n, y, he, n1, ⟨s', B, k2, q.cyc, q.cf.trans e1, q.mv, Int.le_trans q.tot t1, fun e => ?_, fun e => ?_⟩, p2⟩
  · obtain ⟨a1, a2, _⟩ := q1 e
    exact ⟨h0, by omega, by rw [a2]; exact h2⟩
  · rw [(q2 e).1, h2, if_pos h0]
    unfold wrap64
    omega

/-- The end: two Stats beside the core. -/
structure EndG (w0 w : World) (b y wb sb : Nat) (cf : Cfg) (s0 s : Int × Int × Int × Int × Int × Int × Int × Int) : Prop where
  ex : ∃ t A, Km w0 w (fun k => k = wb ∨ k = sb) b t ∧ Cyc t A ∧ t.cf = cf ∧ t.mv = false ∧ t.cop = 0 ∧ t.pt.y = y
  x0 : Blk w wb (stL8 s0.1 s0.2.1 s0.2.2.1 s0.2.2.2.1 s0.2.2.2.2.1 s0.2.2.2.2.2.1 s0.2.2.2.2.2.2.1 s0.2.2.2.2.2.2.2) 31
  x1 : Blk w sb (stL8 s.1 s.2.1 s.2.2.1 s.2.2.2.1 s.2.2.2.2.1 s.2.2.2.2.2.1 s.2.2.2.2.2.2.1 s.2.2.2.2.2.2.2) 31

section
variable {y sb : Nat} {s0 s1 : Int × Int × Int × Int × Int × Int × Int × Int}
theorem EndG.keep (h : EndG w0 w b y wb sb cf s0 s1) (f : Below w.heap.size w w') : EndG w0 w' b y wb sb cf s0 s1 := by
  obtain ⟨⟨t, A, k, r⟩, x0, x1⟩ := h
  exact ⟨⟨t, A, k.keep f, r⟩, x0.keep f, x1.keep f⟩
theorem EndG.c21 (h : EndG w0 w b y wb sb cf s0 s1) : w.cell? ⟨b, 21, none⟩ = some (.bool false) := by
  obtain ⟨⟨t, A, k, _, _, hm, _⟩, _⟩ := h
  rw [← hm]; exact km_moving k
theorem EndG.c14 (h : EndG w0 w b y wb sb cf s0 s1) : w.cell? ⟨b, 14, none⟩ = some (bpP y) := by
  obtain ⟨⟨t, A, k, _, _, _, _, rfl⟩, _⟩ := h
  exact km_c14 k
theorem EndG.c23 (h : EndG w0 w b y wb sb cf s0 s1) : w.cell? ⟨b, 23, none⟩ = some (.int .i64 0) := by
  obtain ⟨⟨t, A, k, _, _, _, hc, _⟩, _⟩ := h
  obtain ⟨S, hC⟩ := k.cr
  rw [c23_of hC, hc]
theorem EndG.c2 (h : EndG w0 w b y wb sb cf s0 s1) : w.cell? ⟨b, 2, none⟩ = some (.int .i64 cf.ps) := by
  obtain ⟨⟨t, A, k, _, rfl, _⟩, _⟩ := h
  obtain ⟨S, hC⟩ := k.cr
  obtain ⟨_, _, _, _, hc, _⟩ := hC.cell
  exact hc 2
theorem EndG.c3 (h : EndG w0 w b y wb sb cf s0 s1) : w.cell? ⟨b, 3, none⟩ = some (.int .i64 cf.pz) := by
  obtain ⟨⟨t, A, k, _, rfl, _⟩, _⟩ := h
  obtain ⟨S, hC⟩ := k.cr
  obtain ⟨_, _, _, _, hc, _⟩ := hC.cell
  exact hc 3
theorem EndG.left (h : EndG w0 w b y wb sb cf s0 s1) : Calls Tryz.prog 51 #[bpP y] w fun e w' => e = .returned (.int .i64 0) ∧ Below w.heap.size w w' := by
  obtain ⟨⟨t, A, k, c, _, hm, _, rfl⟩, _⟩ := h
  exact km_left k c hm
theorem EndG.bel (h : EndG w0 w b y wb sb cf s0 s1) : Below w0.heap.size w0 w := by
  obtain ⟨⟨t, A, k, _⟩, _⟩ := h
  exact k.bel
theorem EndG.w5 (h : EndG w0 w b y wb sb cf s0 s1) : w.cell? ⟨wb, 5, none⟩ = some (.int .i64 s0.2.2.2.2.2.1) := h.x0.cell 5
theorem EndG.w6 (h : EndG w0 w b y wb sb cf s0 s1) : w.cell? ⟨wb, 6, none⟩ = some (.int .i64 s0.2.2.2.2.2.2.1) := h.x0.cell 6
theorem EndG.w3 (h : EndG w0 w b y wb sb cf s0 s1) : w.cell? ⟨wb, 3, none⟩ = some (.int .i64 s0.2.2.2.1) := h.x0.cell 3
theorem EndG.s5 (h : EndG w0 w b y wb sb cf s0 s1) : w.cell? ⟨sb, 5, none⟩ = some (.int .i64 s1.2.2.2.2.2.1) := h.x1.cell 5
theorem EndG.s6 (h : EndG w0 w b y wb sb cf s0 s1) : w.cell? ⟨sb, 6, none⟩ = some (.int .i64 s1.2.2.2.2.2.2.1) := h.x1.cell 6
theorem EndG.s3 (h : EndG w0 w b y wb sb cf s0 s1) : w.cell? ⟨sb, 3, none⟩ = some (.int .i64 s1.2.2.2.1) := h.x1.cell 3
end
end
end

theorem Blk.set8 {w1 : World} {k : Nat} {t : TypeId} {u0 u1 u2 u3 u4 u5 u6 u7 : Value} (h : Blk w1 k #[u0, u1, u2, u3, u4, u5, u6, u7] t) (v0 v1 v2 v3 v4 v5 v6 v7 : Value) :
    Blk ((((((((w1.setCell ⟨k, 0, none⟩ v0).setCell ⟨k, 1, none⟩ v1).setCell ⟨k, 2, none⟩ v2).setCell ⟨k, 3, none⟩ v3).setCell ⟨k, 4, none⟩ v4).setCell ⟨k, 5, none⟩ v5).setCell ⟨k, 6, none⟩ v6).setCell ⟨k, 7, none⟩ v7) k #[v0, v1, v2, v3, v4, v5, v6, v7] t := by
  have e := (((((((h.set_ 0 v0).set_ 1 v1).set_ 2 v2).set_ 3 v3).set_ 4 v4).set_ 5 v5).set_ 6 v6).set_ 7 v7
  simpa only [List.setIfInBounds_toArray, List.set_cons_zero, List.set_cons_succ] using e
theorem Blk.eight {w : World} {b : Nat} {t : TypeId} {v0 v1 v2 v3 v4 v5 v6 v7 : Value} (h : Blk w b #[v0, v1, v2, v3, v4, v5, v6, v7] t) :
    w.cell? ⟨b, 0, none⟩ = some v0 ∧ w.cell? ⟨b, 1, none⟩ = some v1 ∧ w.cell? ⟨b, 2, none⟩ = some v2 ∧ w.cell? ⟨b, 3, none⟩ = some v3 ∧ w.cell? ⟨b, 4, none⟩ = some v4 ∧ w.cell? ⟨b, 5, none⟩ = some v5 ∧ w.cell? ⟨b, 6, none⟩ = some v6 ∧ w.cell? ⟨b, 7, none⟩ = some v7 ∧ (∀ i, w.frozen? ⟨b, i, none⟩ = false) := ⟨h.cell 0, h.cell 1, h.cell 2, h.cell 3, h.cell 4, h.cell 5, h.cell 6, h.cell 7, h.frozen⟩
theorem Frm.set8 {T : Nat → Prop} {w w1 : World} (f : Frm T w w1) (k : Nat) (hk : T k) (v0 v1 v2 v3 v4 v5 v6 v7 : Value) :
    Frm T w ((((((((w1.setCell ⟨k, 0, none⟩ v0).setCell ⟨k, 1, none⟩ v1).setCell ⟨k, 2, none⟩ v2).setCell ⟨k, 3, none⟩ v3).setCell ⟨k, 4, none⟩ v4).setCell ⟨k, 5, none⟩ v5).setCell ⟨k, 6, none⟩ v6).setCell ⟨k, 7, none⟩ v7) :=
  (((((((f.setCell (p := ⟨k, 0, none⟩) (fun _ => hk) _).setCell (p := ⟨k, 1, none⟩) (fun _ => hk) _).setCell (p := ⟨k, 2, none⟩) (fun _ => hk) _).setCell (p := ⟨k, 3, none⟩) (fun _ => hk) _).setCell (p := ⟨k, 4, none⟩) (fun _ => hk) _).setCell (p := ⟨k, 5, none⟩) (fun _ => hk) _).setCell (p := ⟨k, 6, none⟩) (fun _ => hk) _).setCell (p := ⟨k, 7, none⟩) (fun _ => hk) _

/-- A core beside a box that is made, and written to, in a region. -/
def EwG (w0 : World) (b : Nat) (s : Co) (m : Made) (w' : World) : Prop := match m 6 with
  | none => Km w0 w' noZ b s ∧ m 7 = none
  | some v => ∃ k : Nat, v = .pointer (some ⟨k, 0, none⟩) ∧ Km w0 w' (fun j => j = k) b s ∧ Blk w' k (match m 7 with | none => stL8 0 0 0 0 0 0 0 0 | some _ => stL8 s.d.al s.d.wd s.d.pr s.d.mi s.d.ma (s.yu + s.yv) s.used (s.cf.ps * s.cf.pz - s.used)) 31
theorem EwG.pure {w0 w' : World} {b : Nat} {s : Co} {m : Made} (h : EwG w0 b s m w') (i : Nat) (v : Value) (hi : i ≠ 6) (hj : i ≠ 7) : EwG w0 b s (m.upd i v) w' := by
  unfold EwG at h ⊢
  rwa [show m.upd i v 6 = m 6 from if_neg (Ne.symm hi), show m.upd i v 7 = m 7 from if_neg (Ne.symm hj)]
theorem EwG.keep {w0 w' w2 : World} {b : Nat} {s : Co} {m : Made} (h : EwG w0 b s m w') (f : Below w'.heap.size w' w2) : EwG w0 b s m w2 := by
  unfold EwG at h ⊢
  cases e : m 6 with
  | none => rw [e] at h; exact ⟨Km.keep h.1 f, h.2⟩
  | some v =>
    rw [e] at h
    obtain ⟨k, e, h1, h2⟩ := h
    exact ⟨k, e, h1.keep f, h2.keep f⟩
theorem EwG.km {w0 w' : World} {b : Nat} {s : Co} {m : Made} (h : EwG w0 b s m w') : ∃ Z, Km w0 w' Z b s := by
  unfold EwG at h
  cases e : m 6 with
  | none => rw [e] at h; exact ⟨_, h.1⟩
  | some v =>
    rw [e] at h
    obtain ⟨k, e, h1, h2⟩ := h
    exact ⟨_, h1⟩
theorem EwG.made {w0 w' : World} {b : Nat} {s : Co} {m : Made} (h : EwG w0 b s m w') (h6 : m 6 = none) : EwG w0 b s (m.upd 6 (.pointer (some ⟨w'.heap.size, 0, none⟩))) (w'.alloc (stO8 0 0 0 0 0 0 0 0)) := by
  unfold EwG at h ⊢
  rw [h6] at h
  rw [show m.upd 6 (.pointer (some ⟨w'.heap.size, 0, none⟩)) 6 = some (.pointer (some ⟨w'.heap.size, 0, none⟩)) from if_pos rfl, show m.upd 6 (.pointer (some ⟨w'.heap.size, 0, none⟩)) 7 = none from (if_neg (by decide)).trans h.2]
  exact ⟨w'.heap.size, rfl, Km.grow h.1 ((Below.refl _ w').alloc (Nat.le_refl _) _) fun k hk => .inr ⟨by omega, by subst hk; simp⟩, Blk.new w' _ _⟩
theorem EwG.six {w0 w' : World} {b k : Nat} {s : Co} {m : Made} (h : EwG w0 b s m w') (h6 : m 6 = some (.pointer (some ⟨k, 0, none⟩))) (h7 : m 7 = none) : Km w0 w' (fun j => j = k) b s ∧ Blk w' k (stL8 0 0 0 0 0 0 0 0) 31 := by
  unfold EwG at h
  rw [h6, h7] at h
  obtain ⟨k', e, h1, h2⟩ := h
  cases e
  exact ⟨h1, h2⟩
theorem EwG.done {w0 w' : World} {b k : Nat} {s : Co} {m : Made} {u : Value} (h : EwG w0 b s m w') (h6 : m 6 = some (.pointer (some ⟨k, 0, none⟩))) (h7 : m 7 = some u) : Km w0 w' (fun j => j = k) b s ∧ Blk w' k (stL8 s.d.al s.d.wd s.d.pr s.d.mi s.d.ma (s.yu + s.yv) s.used (s.cf.ps * s.cf.pz - s.used)) 31 := by
  unfold EwG at h
  rw [h6, h7] at h
  obtain ⟨k', e, h1, h2⟩ := h
  cases e
  exact ⟨h1, h2⟩
theorem EwG.stored {w0 w' : World} {b k : Nat} {s : Co} {m : Made} {u : Value} (h : EwG w0 b s m w') (h6 : m 6 = some (.pointer (some ⟨k, 0, none⟩))) (h7 : m 7 = none) :
    EwG w0 b s (m.upd 7 u) ((((((((w'.setCell ⟨k, 0, none⟩ (.int .i64 s.d.al)).setCell ⟨k, 1, none⟩ (.int .i64 s.d.wd)).setCell ⟨k, 2, none⟩ (.int .i64 s.d.pr)).setCell ⟨k, 3, none⟩ (.int .i64 s.d.mi)).setCell ⟨k, 4, none⟩ (.int .i64 s.d.ma)).setCell ⟨k, 5, none⟩ (.int .i64 (s.yu + s.yv))).setCell ⟨k, 6, none⟩ (.int .i64 s.used)).setCell ⟨k, 7, none⟩ (.int .i64 (s.cf.ps * s.cf.pz - s.used))) := by
  obtain ⟨h1, h2⟩ := h.six h6 h7
  unfold EwG
  rw [show m.upd 7 u 6 = some (.pointer (some ⟨k, 0, none⟩)) from (if_neg (by decide)).trans h6, show m.upd 7 u 7 = some u from if_pos rfl]
  exact ⟨k, rfl, h1.write ((Frm.refl (fun j => j = k) w').set8 k rfl _ _ _ _ _ _ _ _) (fun _ _ e => e) (fun _ e => .inl e), h2.set8 _ _ _ _ _ _ _ _⟩

def EndV (b y wb sb : Nat) (y1 o1 y0 o0 pp qq : Int) : Nat → Value → Prop
  | 0 => fun v => v = ptr b
  | 1 => fun v => v = ptr b
  | 2 => fun v => v = .pointer (some ⟨b, 21, none⟩)
  | 3 => fun v => v = .bool false
  | 4 => fun v => v = .bool false
  | 5 => fun v => v = ptr b
  | 6 => fun v => v = ptr b
  | 7 => fun v => v = .pointer (some ⟨b, 14, none⟩)
  | 8 => fun v => v = bpP y
  | 9 => fun v => v = .int .i64 0
  | 10 => fun v => v = .bool false
  | 11 => fun v => v = .bool false
  | 12 => fun v => v = .bool false
  | 13 => fun v => v = ptr b
  | 14 => fun v => v = ptr b
  | 15 => fun v => v = .pointer (some ⟨b, 23, none⟩)
  | 16 => fun v => v = .int .i64 0
  | 17 => fun v => v = .bool false
  | 18 => fun v => v = .bool false
  | 19 => fun v => v = .bool false
  | 20 => fun v => v = .int .i64 0
  | 21 => fun v => v = .bool false
  | 22 => fun v => v = .bool false
  | 23 => fun v => v = .bool false
  | 24 => fun v => v = .bool false
  | 25 => fun v => v = .bool false
  | 26 => fun v => v = .bool false
  | 27 => fun v => v = .pointer (some ⟨sb, 5, none⟩)
  | 28 => fun v => v = .int .i64 y1
  | 29 => fun v => v = .pointer (some ⟨wb, 5, none⟩)
  | 30 => fun v => v = .int .i64 y0
  | 31 => fun v => v = .bool false
  | 32 => fun v => v = .bool false
  | 33 => fun v => v = .bool false
  | 34 => fun v => v = .pointer (some ⟨sb, 5, none⟩)
  | 35 => fun v => v = .int .i64 y1
  | 36 => fun v => v = .pointer (some ⟨sb, 6, none⟩)
  | 37 => fun v => v = .int .i64 o1
  | 38 => fun v => v = .int .i64 (y1 + o1)
  | 39 => fun v => v = .pointer (some ⟨wb, 5, none⟩)
  | 40 => fun v => v = .int .i64 y0
  | 41 => fun v => v = .pointer (some ⟨wb, 6, none⟩)
  | 42 => fun v => v = .int .i64 o0
  | 43 => fun v => v = .int .i64 (y0 + o0)
  | 44 => fun v => v = ptr b
  | 45 => fun v => v = ptr b
  | 46 => fun v => v = .pointer (some ⟨b, 0, none⟩)
  | 47 => fun v => v = .pointer (some ⟨b, 2, none⟩)
  | 48 => fun v => v = .int .i64 pp
  | 49 => fun v => v = ptr b
  | 50 => fun v => v = ptr b
  | 51 => fun v => v = .pointer (some ⟨b, 0, none⟩)
  | 52 => fun v => v = .pointer (some ⟨b, 3, none⟩)
  | 53 => fun v => v = .int .i64 qq
  | 54 => fun v => v = .int .i64 (pp * qq)
  | 55 => fun v => v = .int .i64 (y0 + o0 + pp * qq)
  | 56 => fun v => v = .bool false
  | _ => fun _ => True
theorem EndV_some (b y wb sb : Nat) (y1 o1 y0 o0 pp qq : Int) : ∀ i, ∃ v, EndV b y wb sb y1 o1 y0 o0 pp qq i v
  | 0 => ⟨_, rfl⟩
  | 1 => ⟨_, rfl⟩
  | 2 => ⟨_, rfl⟩
  | 3 => ⟨_, rfl⟩
  | 4 => ⟨_, rfl⟩
  | 5 => ⟨_, rfl⟩
  | 6 => ⟨_, rfl⟩
  | 7 => ⟨_, rfl⟩
  | 8 => ⟨_, rfl⟩
  | 9 => ⟨_, rfl⟩
  | 10 => ⟨_, rfl⟩
  | 11 => ⟨_, rfl⟩
  | 12 => ⟨_, rfl⟩
  | 13 => ⟨_, rfl⟩
  | 14 => ⟨_, rfl⟩
  | 15 => ⟨_, rfl⟩
  | 16 => ⟨_, rfl⟩
  | 17 => ⟨_, rfl⟩
  | 18 => ⟨_, rfl⟩
  | 19 => ⟨_, rfl⟩
  | 20 => ⟨_, rfl⟩
  | 21 => ⟨_, rfl⟩
  | 22 => ⟨_, rfl⟩
  | 23 => ⟨_, rfl⟩
  | 24 => ⟨_, rfl⟩
  | 25 => ⟨_, rfl⟩
  | 26 => ⟨_, rfl⟩
  | 27 => ⟨_, rfl⟩
  | 28 => ⟨_, rfl⟩
  | 29 => ⟨_, rfl⟩
  | 30 => ⟨_, rfl⟩
  | 31 => ⟨_, rfl⟩
  | 32 => ⟨_, rfl⟩
  | 33 => ⟨_, rfl⟩
  | 34 => ⟨_, rfl⟩
  | 35 => ⟨_, rfl⟩
  | 36 => ⟨_, rfl⟩
  | 37 => ⟨_, rfl⟩
  | 38 => ⟨_, rfl⟩
  | 39 => ⟨_, rfl⟩
  | 40 => ⟨_, rfl⟩
  | 41 => ⟨_, rfl⟩
  | 42 => ⟨_, rfl⟩
  | 43 => ⟨_, rfl⟩
  | 44 => ⟨_, rfl⟩
  | 45 => ⟨_, rfl⟩
  | 46 => ⟨_, rfl⟩
  | 47 => ⟨_, rfl⟩
  | 48 => ⟨_, rfl⟩
  | 49 => ⟨_, rfl⟩
  | 50 => ⟨_, rfl⟩
  | 51 => ⟨_, rfl⟩
  | 52 => ⟨_, rfl⟩
  | 53 => ⟨_, rfl⟩
  | 54 => ⟨_, rfl⟩
  | 55 => ⟨_, rfl⟩
  | 56 => ⟨_, rfl⟩
  | _ + 57 => ⟨undef, trivial⟩
def EndW (b : Nat) (vv : Value) (m : Bool) : Nat → Value → Prop
  | 0 => fun v => v = ptr b
  | 1 => fun v => v = vv
  | 2 => fun v => v = ptr b
  | 3 => fun v => v = ptr b
  | 4 => fun v => v = .pointer (some ⟨b, 21, none⟩)
  | 5 => fun v => v = .bool m
  | 6 => fun v => ∃ k : Nat, v = .pointer (some ⟨k, 0, none⟩)
  | 7 => fun v => v = undef
  | _ => fun _ => True
theorem EndW_some (b : Nat) (vv : Value) (m : Bool) : ∀ i, ∃ v, EndW b vv m i v
  | 0 => ⟨_, rfl⟩
  | 1 => ⟨_, rfl⟩
  | 2 => ⟨_, rfl⟩
  | 3 => ⟨_, rfl⟩
  | 4 => ⟨_, rfl⟩
  | 5 => ⟨_, rfl⟩
  | 6 => ⟨_, 0, rfl⟩
  | 7 => ⟨_, rfl⟩
  | _ + 8 => ⟨undef, trivial⟩

attribute [local go_sem] madeUpon

set_option maxHeartbeats 16000000 in
set_option maxRecDepth 100000 in
theorem minorEnds_walk (a b c d : Int) (ha : By a) (hb : By b) (hc : By c) (hd : By d) (Aq : Option Addr) (n cp : Nat) (w : World) (rd : RdAc w Aq n) (_ : n ≤ cp) (_ : cp ≤ maxLen) :
    Calls Tryz.prog 12 #[.int .u8 a, .int .u8 b, .int .u8 c, .int .u8 d, .slice Aq n cp] w fun e w' => e = .returned (.bool true) ∧ Below w.heap.size w w' := by
  have SM : Hid ((cfgOf a b c d).nu ≤ 83 ∧ (cfgOf a b c d).bf ≤ 3 ∧ 0 ≤ (cfgOf a b c d).ps * (cfgOf a b c d).pz ∧ (cfgOf a b c d).ps * (cfgOf a b c d).pz ≤ 768) := Lib.hid (by
    obtain ⟨a0, a1⟩ := ha
    obtain ⟨b0, b1⟩ := hb
    obtain ⟨c0, c1⟩ := hc
    have p := mul_in (a := b / 16 % 12 + 1) (b := 16 + 16 * (a / 64)) (A := 12) (B := 64) (by omega) (by omega) (by omega) (by omega)
    refine ⟨by show 24 + b % 60 ≤ 83; omega, by show c / 4 % 4 ≤ 3; omega, p.1, p.2⟩)
  have HC := Lib.hid (config14_any a b c d ha hb hc hd)
  have HM := Lib.hid (cfgOf_may a b c d ha hb hc hd)
  have RD := Lib.hid rd
  clear ha hb hc hd rd
  generalize cfgOf a b c d = cf at *
  go_enter Tryz.func12, Tryz.ntmps12
  go_wp2_with fail
  refine (HC.out _).mono ?_
  rintro e w1 ⟨rfl, b1⟩
  have HN := Lib.hid (km_new (w0 := w) (Z := noZ) HM.out b1 (fun _ e => e.elim))
  clear b1 HC
  go_wp2_with fail
  refine HN.out.mono ?_
  rintro e w2 ⟨b, pt, rfl, k2, _⟩
  have K2 := Lib.hid k2
  clear k2 HN
  go_wp2_with fail
  refine (awake14_walk _).mono ?_
  rintro e w3 ⟨rfl, b3⟩
  have KL : Hid (Ml w w3 b cf 0) := Lib.hid ⟨_, _, K2.out.keep b3, fresh_cyc HM.out pt, rfl, nb_fresh⟩
  clear b3 K2 HM
  go_wp2_with fail
  go_loopw [13] (fun s wr => ∃ (i : Nat), i ≤ n ∧ i ≤ 80 ∧ s = .int .i64 i ∧ Hid (Ml w wr b cf i)) (fun s _ => n - (intOf s).toNat)
  case atStart => exact ⟨0, Nat.zero_le _, Nat.zero_le _, rfl, KL⟩
  case round =>
    clear KL
    obtain ⟨i, hi, hi2, rfl, KL⟩ := hrel
    by_cases hlt : i < n ∧ i < 80
    · obtain ⟨h1, h2⟩ := hlt
      obtain ⟨ad, k, x, p, q, rfl, _, _, iq, hcell⟩ := RD.out i h1
      obtain ⟨s, A, HG, C, ec, nb⟩ := KL.out
      obtain ⟨c0, c1, c2, c3⟩ := hcell _ HG.bel
      have h3 : (i : Int) < (n : Int) := by omega
      have h4 : (i : Int) < 80 := by omega
      have h5 : (0 : Int) ≤ (i : Int) := by omega
      have HD := Lib.hid (do14_any HG C nb (by omega) k x p q iq.2)
      have NB := Lib.hid nb
      have EC := Lib.hid ec
      clear KL HG hcell C nb ec
      go_wp2_with fail
      refine HD.out.mono ?_
      rintro e w4 ⟨s', B, E, rfl, qq, k4, _⟩
      have K4 := Lib.hid k4
      have C4 := Lib.hid qq.cyc
      have N4 := Lib.hid (qq.nb i (by omega) NB.out)
      have E4 := Lib.hid (qq.cf.trans EC.out)
      clear qq k4 HD NB EC c0 c1 c2 c3
      have KN : Hid (Ml w w4 b cf (i + 1)) := Lib.hid ⟨s', B, K4.out, C4.out, E4.out, N4.out⟩
      clear K4 C4 E4 N4
      go_wp2
      go_roundw
      case rel => exact ⟨i + 1, by omega, by omega, by go_num, KN⟩
      case measure => simp [intOf]; omega
    · have hlt : ((i : Int) < (n : Int) ∧ ¬ ((i : Int) < 80)) ∨ ¬ ((i : Int) < (n : Int)) := by omega
      obtain ⟨s, A, k, c0, ec, nb⟩ := KL.out
      have K := Lib.hid k
      have C := Lib.hid c0
      have EC := Lib.hid ec
      have NB := Lib.hid nb
      clear k c0 ec nb KL RD hi
      generalize wr = wo at *
      rcases hlt with ⟨g1, g2⟩ | g1
      all_goals
        go_wp2_with fail
        refine region_made_tailG (EwG w b s) (EndW b (stV8 s.d.al s.d.wd s.d.pr s.d.mi s.d.ma (s.yu + s.yv) s.used (s.cf.ps * s.cf.pz - s.used)) s.mv) 8 (by kernel_rfl) (by kernel_rfl) (EndW_some _ _ _) ⟨K.out.keep (below_drew wo), rfl⟩ ?_
        simp only [List.take_succ_cons, List.take_zero, List.drop_succ_cons, List.drop_zero]
        refine wpMadeG_step ?_ ?_
        · refine .inl ⟨by rfl, ?_⟩
          intro m' w' hg hag
          go_simp
          exact ⟨rfl, hg.pure _ _ (by decide) (by decide)⟩
        intro K hK
        rintro _ rfl
        go_simp
        refine hK _ _ ?_
        clear hK K
        refine wpMadeG_step ?_ ?_
        · refine .inl ⟨by rfl, ?_⟩
          intro m' w' hg hag
          obtain ⟨Z, kz⟩ := hg.km
          go_simp
          exact (km_stats kz C.out).mono fun e w3 ⟨he, b3⟩ => ⟨_, he, rfl, (hg.keep b3).pure _ _ (by decide) (by decide)⟩
        intro K hK
        rintro _ rfl
        go_simp
        refine hK _ _ ?_
        clear hK K
        refine wpMadeG_step ?_ ?_
        · refine .inl ⟨by rfl, ?_⟩
          intro m' w' hg hag
          go_simp
          exact ⟨rfl, hg.pure _ _ (by decide) (by decide)⟩
        intro K hK
        rintro _ rfl
        go_simp
        refine hK _ _ ?_
        clear hK K
        refine wpMadeG_step ?_ ?_
        · refine .inl ⟨by rfl, ?_⟩
          intro m' w' hg hag
          go_simp
          exact ⟨rfl, hg.pure _ _ (by decide) (by decide)⟩
        intro K hK
        rintro _ rfl
        go_simp
        refine hK _ _ ?_
        clear hK K
        refine wpMadeG_step ?_ ?_
        · refine .inl ⟨by rfl, ?_⟩
          intro m' w' hg hag
          go_simp
          exact ⟨rfl, hg.pure _ _ (by decide) (by decide)⟩
        intro K hK
        rintro _ rfl
        go_simp
        refine hK _ _ ?_
        clear hK K
        refine wpMadeG_step ?_ ?_
        · refine .inl ⟨by rfl, ?_⟩
          intro m' w' hg hag
          obtain ⟨Z, kz⟩ := hg.km
          have q1 := km_moving kz
          go_simp
          exact ⟨rfl, hg.pure _ _ (by decide) (by decide)⟩
        intro K hK
        rintro _ rfl
        go_simp
        refine hK _ _ ?_
        clear hK K
        refine wpMadeG_step ?_ ?_
        · refine .inl ⟨by rfl, ?_⟩
          intro m' w' hg hag
          have h6 := hag 6 (.inl rfl)
          go_simp
          exact ⟨⟨_, rfl⟩, hg.made h6⟩
        intro K hK
        rintro _ ⟨kb, rfl⟩
        go_simp
        refine hK _ _ ?_
        clear hK K
        refine wpMadeG_step ?_ ?_
        · refine .inl ⟨by rfl, ?_⟩
          intro m' w' hg hag
          have h6 := hag 6 (.inr ⟨⟨6, .data⟩, by simp, by rfl, rfl⟩)
          have h7 := hag 7 (.inl rfl)
          obtain ⟨kg, bg⟩ := hg.six h6 h7
          obtain ⟨q0, q1, q2, q3, q4, q5, q6, q7, qf⟩ := bg.eight
          have lt := bg.lt
          go_simp
          exact ⟨rfl, hg.stored h6 h7⟩
        intro K hK
        rintro _ rfl
        go_simp
        refine hK _ _ ?_
        clear hK K
        refine wpMadeG_nil ?_
        intro w' hg
        obtain ⟨kg, bg⟩ := hg.done rfl rfl
        have KG := Lib.hid kg
        have BG := Lib.hid bg
        clear hg K kg bg
        have LF := Lib.hid (show left_ s A ≤ 1000 from by
          obtain ⟨S, hC⟩ := KG.out.cr
          have h1 := left_few hC C.out
          have h2 := SM.out
          rw [EC.out] at h1
          omega)
        have M0 := Lib.hid (show 0 ≤ s.d.mi ∧ s.d.mi ≤ 1000000 from by have := NB.out; unfold Nb at this; omega)
        have C0 := Lib.hid (show 0 ≤ s.cop ∧ s.tot = s.yu + s.yv - s.cop from by
          have := C.out.sim.cop
          have := rest_le (A := A)
          have := C.out.sim.laid.he.use
          exact ⟨by omega, rfl⟩)
        have U0 := Lib.hid (show 0 ≤ s.used ∧ s.used ≤ 768 ∧ 0 ≤ s.yu + s.yv ∧ s.yu + s.yv ≤ 166 from by
          have h1 := C.out.used
          have h2 := SM.out
          have h3 := C.out.sim.laid.used
          have h4 := C.out.sim.laid.le
          rw [EC.out] at h1 h3 h4
          omega)
        have FI : Hid (FinI w w' b kb cf s.d.mi s.tot (left_ s A) s.mv 0 s.mv) := Lib.hid ⟨s, A, KG.out, C.out, EC.out, rfl, Int.le_refl _, fun e => ⟨e, Nat.le_refl _, rfl⟩, fun e => by rw [e]; rfl⟩
        generalize left_ s A = L at *
        clear KG C NB
        go_wp2_with fail
        go_loopw [16] (fun s16 wr => ∃ (j : Nat) (mv : Bool), j ≤ L + 1 ∧ s16 = .int .i64 j ∧ Hid (FinI w wr b kb cf s.d.mi s.tot L s.mv j mv) ∧ Hid (Blk wr kb (stL8 s.d.al s.d.wd s.d.pr s.d.mi s.d.ma (s.yu + s.yv) s.used (s.cf.ps * s.cf.pz - s.used)) 31)) (fun s16 _ => L + 2 - (intOf s16).toNat)
        case atStart => exact ⟨0, s.mv, by omega, rfl, FI, BG⟩
        case round =>
          clear FI BG
          obtain ⟨j, mv, hj, rfl, FI, BG⟩ := hrel
          have c21 := FI.out.moving
          have l1000 := LF.out
          have j4 : (j : Int) < 4000 := by omega
          cases mv
          · obtain ⟨t, B, k, c, ec, hm, tt, mz, mm0⟩ := FI.out
            have mm := Lib.hid (mm0 rfl)
            clear mm0 mz
            have HS := Lib.hid (km_stats k c)
            have K := Lib.hid k
            have C := Lib.hid c
            have ET := Lib.hid (And.intro ec (And.intro hm tt))
            have YV := Lib.hid (show t.yv = 0 ∧ t.cop = 0 from by
              have u := c.sim.laid.he.use
              have v := c.sim.cop
              obtain ⟨hE, _⟩ := c.idle hm
              have r : A.rest = A.rest := rfl
              have r0 : B.rest = 0 := by unfold Hp.rest Hp.un; rw [hE]; rfl
              rw [hE] at u
              have u : t.yv = 0 := u
              exact ⟨u, by omega⟩)
            clear FI k c ec hm tt
            go_wp2_with fail
            refine HS.out.mono ?_
            rintro e w6 ⟨rfl, b6⟩
            have K6 := Lib.hid ((K.out.keep b6).grow (Z' := fun j => j = kb ∨ j = w6.heap.size) ((Below.refl _ w6).alloc (Nat.le_refl _) (stO8 t.d.al t.d.wd t.d.pr t.d.mi t.d.ma (t.yu + t.yv) t.used (t.cf.ps * t.cf.pz - t.used))) fun j hj => hj.imp id fun e => ⟨by omega, by subst e; simp⟩)
            have B6 := Lib.hid ((BG.out.keep b6).keep ((Below.refl _ w6).alloc (Nat.le_refl _) (stO8 t.d.al t.d.wd t.d.pr t.d.mi t.d.ma (t.yu + t.yv) t.used (t.cf.ps * t.cf.pz - t.used))))
            have X6 := Lib.hid (Blk.new w6 (stL8 t.d.al t.d.wd t.d.pr t.d.mi t.d.ma (t.yu + t.yv) t.used (t.cf.ps * t.cf.pz - t.used)) 31)
            have HS2 := Lib.hid (km_step K6.out C.out)
            clear HS K BG b6 c21
            go_wp2_with fail
            refine HS2.out.mono ?_
            rintro e w7 ⟨t', B', n7, y7, rfl, q7, k7, p7⟩
            obtain ⟨rfl, rfl, rfl⟩ := q7.no ET.out.2.1
            have ey : y7 = false := q7.mv.symm.trans ET.out.2.1
            subst ey
            have G7 : Hid (EndG w w7 b t'.pt.y kb w6.heap.size cf (s.d.al, s.d.wd, s.d.pr, s.d.mi, s.d.ma, s.yu + s.yv, s.used, s.cf.ps * s.cf.pz - s.used) (t'.d.al, t'.d.wd, t'.d.pr, t'.d.mi, t'.d.ma, t'.yu + t'.yv, t'.used, t'.cf.ps * t'.cf.pz - t'.used)) := Lib.hid ⟨⟨t', B', k7, q7.cyc, ET.out.1, ET.out.2.1, YV.out.2, rfl⟩, B6.out.kp p7 (.inl rfl), X6.out.kp p7 (.inr rfl)⟩
            have GB := Lib.hid (show t'.yu + t'.yv ≤ s.yu + s.yv ∧ 0 ≤ t'.yu + t'.yv ∧ 0 ≤ t'.used ∧ t'.used ≤ cf.ps * cf.pz from by
              have h1 := ET.out.2.2
              have h2 := YV.out
              have h3 := C0.out
              have h4 : t'.tot = t'.yu + t'.yv - t'.cop := rfl
              have h5 := C.out.used
              have h6 := C.out.sim.laid.used
              rw [ET.out.1] at h5
              omega)
            clear q7 k7 p7 HS2 K6 B6 X6 C ET YV C0
            generalize t'.yu + t'.yv = y1 at *
            generalize t'.used = o1 at *
            generalize s.yu + s.yv = y0 at *
            generalize s.used = o0 at *
            generalize w6.heap.size = sb at *
            have gb := GB.out
            have u0 := U0.out
            have sm := SM.out
            have GT : Hid (decide (y0 < y1) = false ∧ decide (y0 + o0 + cf.ps * cf.pz < y1 + o1) = false) := Lib.hid ⟨decide_eq_false (by omega), decide_eq_false (by omega)⟩
            have hw1 : IntKind.i64.wrap (y1 + o1) = y1 + o1 := IntWalk.i64_in _ (by omega)
            have hw2 : IntKind.i64.wrap (y0 + o0) = y0 + o0 := IntWalk.i64_in _ (by omega)
            have hw3 : IntKind.i64.wrap (cf.ps * cf.pz) = cf.ps * cf.pz := IntWalk.i64_in _ (by omega)
            have hw4 : IntKind.i64.wrap (y0 + o0 + cf.ps * cf.pz) = y0 + o0 + cf.ps * cf.pz := IntWalk.i64_in _ (by omega)
            clear gb u0 sm
            go_wp2_with fail
            refine region_made_tailG (fun _ w' => EndG w w' b t'.pt.y kb sb cf (s.d.al, s.d.wd, s.d.pr, s.d.mi, s.d.ma, y0, o0, s.cf.ps * s.cf.pz - o0) (t'.d.al, t'.d.wd, t'.d.pr, t'.d.mi, t'.d.ma, y1, o1, t'.cf.ps * t'.cf.pz - o1)) (EndV b t'.pt.y kb sb y1 o1 y0 o0 cf.ps cf.pz) 57 (by kernel_rfl) (by kernel_rfl) (EndV_some _ _ _ _ _ _ _ _ _ _) (G7.out.keep (below_drew w7)) ?_
            simp only [List.take_succ_cons, List.take_zero, List.drop_succ_cons, List.drop_zero]
            refine wpMadeG_step ?_ ?_
            · refine .inl ⟨by rfl, ?_⟩
              intro m' w' hg hag
              go_simp
              first | exact rfl | exact ⟨rfl, hg⟩
            intro K hK
            rintro _ rfl
            go_simp
            refine hK _ _ ?_
            clear hK K
            refine wpMadeG_step ?_ ?_
            · refine .inl ⟨by rfl, ?_⟩
              intro m' w' hg hag
              go_simp
              first | exact rfl | exact ⟨rfl, hg⟩
            intro K hK
            rintro _ rfl
            go_simp
            refine hK _ _ ?_
            clear hK K
            refine wpMadeG_step ?_ ?_
            · refine .inl ⟨by rfl, ?_⟩
              intro m' w' hg hag
              go_simp
              first | exact rfl | exact ⟨rfl, hg⟩
            intro K hK
            rintro _ rfl
            go_simp
            refine hK _ _ ?_
            clear hK K
            refine wpMadeG_step ?_ ?_
            · refine .inl ⟨by rfl, ?_⟩
              intro m' w' hg hag
              have q1 := hg.c21
              go_simp
              first | exact rfl | exact ⟨rfl, hg⟩
            intro K hK
            rintro _ rfl
            go_simp
            refine hK _ _ ?_
            clear hK K
            refine wpMadeG_step ?_ ?_
            · refine .inl ⟨by rfl, ?_⟩
              intro m' w' hg hag
              go_simp
              first | exact rfl | exact ⟨rfl, hg⟩
            intro K hK
            rintro _ rfl
            go_simp
            refine hK _ _ ?_
            clear hK K
            refine wpMadeG_step ?_ ?_
            · refine .inl ⟨by rfl, ?_⟩
              intro m' w' hg hag
              go_simp
              first | exact rfl | exact ⟨rfl, hg⟩
            intro K hK
            rintro _ rfl
            go_simp
            refine hK _ _ ?_
            clear hK K
            refine wpMadeG_step ?_ ?_
            · refine .inl ⟨by rfl, ?_⟩
              intro m' w' hg hag
              go_simp
              first | exact rfl | exact ⟨rfl, hg⟩
            intro K hK
            rintro _ rfl
            go_simp
            refine hK _ _ ?_
            clear hK K
            refine wpMadeG_step ?_ ?_
            · refine .inl ⟨by rfl, ?_⟩
              intro m' w' hg hag
              go_simp
              first | exact rfl | exact ⟨rfl, hg⟩
            intro K hK
            rintro _ rfl
            go_simp
            refine hK _ _ ?_
            clear hK K
            refine wpMadeG_step ?_ ?_
            · refine .inl ⟨by rfl, ?_⟩
              intro m' w' hg hag
              have q1 := hg.c14
              go_simp
              first | exact rfl | exact ⟨rfl, hg⟩
            intro K hK
            rintro _ rfl
            go_simp
            refine hK _ _ ?_
            clear hK K
            refine wpMadeG_step ?_ ?_
            · refine .inl ⟨by rfl, ?_⟩
              intro m' w' hg hag
              go_simp
              exact (hg.left).mono fun e w3 ⟨he, b3⟩ => ⟨_, he, rfl, hg.keep b3⟩
            intro K hK
            rintro _ rfl
            go_simp
            refine hK _ _ ?_
            clear hK K
            refine wpMadeG_step ?_ ?_
            · refine .inl ⟨by rfl, ?_⟩
              intro m' w' hg hag
              go_simp
              first | exact rfl | exact ⟨rfl, hg⟩ | (show Value.bool _ = Value.bool _; simp) | exact ⟨by simp, hg⟩
            intro K hK
            rintro _ rfl
            go_simp
            refine hK _ _ ?_
            clear hK K
            refine wpMadeG_step ?_ ?_
            · refine .inl ⟨by rfl, ?_⟩
              intro m' w' hg hag
              go_simp
              first | exact rfl | exact ⟨rfl, hg⟩ | (show Value.bool _ = Value.bool _; simp) | exact ⟨by simp, hg⟩
            intro K hK
            rintro _ rfl
            go_simp
            refine hK _ _ ?_
            clear hK K
            refine wpMadeG_step ?_ ?_
            · refine .inl ⟨by rfl, ?_⟩
              intro m' w' hg hag
              go_simp
              first | exact rfl | exact ⟨rfl, hg⟩ | (show Value.bool _ = Value.bool _; simp) | exact ⟨by simp, hg⟩
            intro K hK
            rintro _ rfl
            go_simp
            refine hK _ _ ?_
            clear hK K
            refine wpMadeG_step ?_ ?_
            · refine .inl ⟨by rfl, ?_⟩
              intro m' w' hg hag
              go_simp
              first | exact rfl | exact ⟨rfl, hg⟩
            intro K hK
            rintro _ rfl
            go_simp
            refine hK _ _ ?_
            clear hK K
            refine wpMadeG_step ?_ ?_
            · refine .inl ⟨by rfl, ?_⟩
              intro m' w' hg hag
              go_simp
              first | exact rfl | exact ⟨rfl, hg⟩
            intro K hK
            rintro _ rfl
            go_simp
            refine hK _ _ ?_
            clear hK K
            refine wpMadeG_step ?_ ?_
            · refine .inl ⟨by rfl, ?_⟩
              intro m' w' hg hag
              go_simp
              first | exact rfl | exact ⟨rfl, hg⟩
            intro K hK
            rintro _ rfl
            go_simp
            refine hK _ _ ?_
            clear hK K
            refine wpMadeG_step ?_ ?_
            · refine .inl ⟨by rfl, ?_⟩
              intro m' w' hg hag
              have q1 := hg.c23
              go_simp
              first | exact rfl | exact ⟨rfl, hg⟩
            intro K hK
            rintro _ rfl
            go_simp
            refine hK _ _ ?_
            clear hK K
            refine wpMadeG_step ?_ ?_
            · refine .inl ⟨by rfl, ?_⟩
              intro m' w' hg hag
              go_simp
              first | exact rfl | exact ⟨rfl, hg⟩ | (show Value.bool _ = Value.bool _; simp) | exact ⟨by simp, hg⟩
            intro K hK
            rintro _ rfl
            go_simp
            refine hK _ _ ?_
            clear hK K
            refine wpMadeG_step ?_ ?_
            · refine .inl ⟨by rfl, ?_⟩
              intro m' w' hg hag
              go_simp
              first | exact rfl | exact ⟨rfl, hg⟩ | (show Value.bool _ = Value.bool _; simp) | exact ⟨by simp, hg⟩
            intro K hK
            rintro _ rfl
            go_simp
            refine hK _ _ ?_
            clear hK K
            refine wpMadeG_step ?_ ?_
            · refine .inl ⟨by rfl, ?_⟩
              intro m' w' hg hag
              go_simp
              first | exact rfl | exact ⟨rfl, hg⟩ | (show Value.bool _ = Value.bool _; simp) | exact ⟨by simp, hg⟩
            intro K hK
            rintro _ rfl
            go_simp
            refine hK _ _ ?_
            clear hK K
            refine wpMadeG_step ?_ ?_
            · refine .inl ⟨by rfl, ?_⟩
              intro m' w' hg hag
              go_simp
              first | exact rfl | exact ⟨rfl, hg⟩
            intro K hK
            rintro _ rfl
            go_simp
            refine hK _ _ ?_
            clear hK K
            refine wpMadeG_step ?_ ?_
            · refine .inl ⟨by rfl, ?_⟩
              intro m' w' hg hag
              go_simp
              first | exact rfl | exact ⟨rfl, hg⟩ | (show Value.bool _ = Value.bool _; simp) | exact ⟨by simp, hg⟩
            intro K hK
            rintro _ rfl
            go_simp
            refine hK _ _ ?_
            clear hK K
            refine wpMadeG_step ?_ ?_
            · refine .inl ⟨by rfl, ?_⟩
              intro m' w' hg hag
              go_simp
              first | exact rfl | exact ⟨rfl, hg⟩ | (show Value.bool _ = Value.bool _; simp) | exact ⟨by simp, hg⟩
            intro K hK
            rintro _ rfl
            go_simp
            refine hK _ _ ?_
            clear hK K
            refine wpMadeG_step ?_ ?_
            · refine .inl ⟨by rfl, ?_⟩
              intro m' w' hg hag
              go_simp
              first | exact rfl | exact ⟨rfl, hg⟩ | (show Value.bool _ = Value.bool _; simp) | exact ⟨by simp, hg⟩
            intro K hK
            rintro _ rfl
            go_simp
            refine hK _ _ ?_
            clear hK K
            refine wpMadeG_step ?_ ?_
            · refine .inl ⟨by rfl, ?_⟩
              intro m' w' hg hag
              go_simp
              first | exact rfl | exact ⟨rfl, hg⟩
            intro K hK
            rintro _ rfl
            go_simp
            refine hK _ _ ?_
            clear hK K
            refine wpMadeG_step ?_ ?_
            · refine .inl ⟨by rfl, ?_⟩
              intro m' w' hg hag
              go_simp
              first | exact rfl | exact ⟨rfl, hg⟩ | (show Value.bool _ = Value.bool _; simp) | exact ⟨by simp, hg⟩
            intro K hK
            rintro _ rfl
            go_simp
            refine hK _ _ ?_
            clear hK K
            refine wpMadeG_step ?_ ?_
            · refine .inl ⟨by rfl, ?_⟩
              intro m' w' hg hag
              go_simp
              first | exact rfl | exact ⟨rfl, hg⟩ | (show Value.bool _ = Value.bool _; simp) | exact ⟨by simp, hg⟩
            intro K hK
            rintro _ rfl
            go_simp
            refine hK _ _ ?_
            clear hK K
            refine wpMadeG_step ?_ ?_
            · refine .inl ⟨by rfl, ?_⟩
              intro m' w' hg hag
              go_simp
              first | exact rfl | exact ⟨rfl, hg⟩
            intro K hK
            rintro _ rfl
            go_simp
            refine hK _ _ ?_
            clear hK K
            refine wpMadeG_step ?_ ?_
            · refine .inl ⟨by rfl, ?_⟩
              intro m' w' hg hag
              have q1 := hg.s5
              go_simp
              first | exact rfl | exact ⟨rfl, hg⟩
            intro K hK
            rintro _ rfl
            go_simp
            refine hK _ _ ?_
            clear hK K
            refine wpMadeG_step ?_ ?_
            · refine .inl ⟨by rfl, ?_⟩
              intro m' w' hg hag
              go_simp
              first | exact rfl | exact ⟨rfl, hg⟩
            intro K hK
            rintro _ rfl
            go_simp
            refine hK _ _ ?_
            clear hK K
            refine wpMadeG_step ?_ ?_
            · refine .inl ⟨by rfl, ?_⟩
              intro m' w' hg hag
              have q1 := hg.w5
              go_simp
              first | exact rfl | exact ⟨rfl, hg⟩
            intro K hK
            rintro _ rfl
            go_simp
            refine hK _ _ ?_
            clear hK K
            refine wpMadeG_step ?_ ?_
            · refine .inl ⟨by rfl, ?_⟩
              intro m' w' hg hag
              go_simp
              first | (show Value.bool _ = Value.bool _; rw [GT.out.1]) | exact ⟨by rw [GT.out.1], hg⟩
            intro K hK
            rintro _ rfl
            go_simp
            refine hK _ _ ?_
            clear hK K
            refine wpMadeG_step ?_ ?_
            · refine .inl ⟨by rfl, ?_⟩
              intro m' w' hg hag
              go_simp
              first | exact rfl | exact ⟨rfl, hg⟩ | (show Value.bool _ = Value.bool _; simp) | exact ⟨by simp, hg⟩
            intro K hK
            rintro _ rfl
            go_simp
            refine hK _ _ ?_
            clear hK K
            refine wpMadeG_step ?_ ?_
            · refine .inl ⟨by rfl, ?_⟩
              intro m' w' hg hag
              go_simp
              first | exact rfl | exact ⟨rfl, hg⟩ | (show Value.bool _ = Value.bool _; simp) | exact ⟨by simp, hg⟩
            intro K hK
            rintro _ rfl
            go_simp
            refine hK _ _ ?_
            clear hK K
            refine wpMadeG_step ?_ ?_
            · refine .inl ⟨by rfl, ?_⟩
              intro m' w' hg hag
              go_simp
              first | exact rfl | exact ⟨rfl, hg⟩
            intro K hK
            rintro _ rfl
            go_simp
            refine hK _ _ ?_
            clear hK K
            refine wpMadeG_step ?_ ?_
            · refine .inl ⟨by rfl, ?_⟩
              intro m' w' hg hag
              have q1 := hg.s5
              go_simp
              first | exact rfl | exact ⟨rfl, hg⟩
            intro K hK
            rintro _ rfl
            go_simp
            refine hK _ _ ?_
            clear hK K
            refine wpMadeG_step ?_ ?_
            · refine .inl ⟨by rfl, ?_⟩
              intro m' w' hg hag
              go_simp
              first | exact rfl | exact ⟨rfl, hg⟩
            intro K hK
            rintro _ rfl
            go_simp
            refine hK _ _ ?_
            clear hK K
            refine wpMadeG_step ?_ ?_
            · refine .inl ⟨by rfl, ?_⟩
              intro m' w' hg hag
              have q1 := hg.s6
              go_simp
              first | exact rfl | exact ⟨rfl, hg⟩
            intro K hK
            rintro _ rfl
            go_simp
            refine hK _ _ ?_
            clear hK K
            refine wpMadeG_step ?_ ?_
            · refine .inl ⟨by rfl, ?_⟩
              intro m' w' hg hag
              go_simp
              first | exact rfl | exact ⟨rfl, hg⟩
            intro K hK
            rintro _ rfl
            go_simp
            refine hK _ _ ?_
            clear hK K
            refine wpMadeG_step ?_ ?_
            · refine .inl ⟨by rfl, ?_⟩
              intro m' w' hg hag
              go_simp
              first | exact rfl | exact ⟨rfl, hg⟩
            intro K hK
            rintro _ rfl
            go_simp
            refine hK _ _ ?_
            clear hK K
            refine wpMadeG_step ?_ ?_
            · refine .inl ⟨by rfl, ?_⟩
              intro m' w' hg hag
              have q1 := hg.w5
              go_simp
              first | exact rfl | exact ⟨rfl, hg⟩
            intro K hK
            rintro _ rfl
            go_simp
            refine hK _ _ ?_
            clear hK K
            refine wpMadeG_step ?_ ?_
            · refine .inl ⟨by rfl, ?_⟩
              intro m' w' hg hag
              go_simp
              first | exact rfl | exact ⟨rfl, hg⟩
            intro K hK
            rintro _ rfl
            go_simp
            refine hK _ _ ?_
            clear hK K
            refine wpMadeG_step ?_ ?_
            · refine .inl ⟨by rfl, ?_⟩
              intro m' w' hg hag
              have q1 := hg.w6
              go_simp
              first | exact rfl | exact ⟨rfl, hg⟩
            intro K hK
            rintro _ rfl
            go_simp
            refine hK _ _ ?_
            clear hK K
            refine wpMadeG_step ?_ ?_
            · refine .inl ⟨by rfl, ?_⟩
              intro m' w' hg hag
              go_simp
              first | exact rfl | exact ⟨rfl, hg⟩
            intro K hK
            rintro _ rfl
            go_simp
            refine hK _ _ ?_
            clear hK K
            refine wpMadeG_step ?_ ?_
            · refine .inl ⟨by rfl, ?_⟩
              intro m' w' hg hag
              go_simp
              first | exact rfl | exact ⟨rfl, hg⟩
            intro K hK
            rintro _ rfl
            go_simp
            refine hK _ _ ?_
            clear hK K
            refine wpMadeG_step ?_ ?_
            · refine .inl ⟨by rfl, ?_⟩
              intro m' w' hg hag
              go_simp
              first | exact rfl | exact ⟨rfl, hg⟩
            intro K hK
            rintro _ rfl
            go_simp
            refine hK _ _ ?_
            clear hK K
            refine wpMadeG_step ?_ ?_
            · refine .inl ⟨by rfl, ?_⟩
              intro m' w' hg hag
              go_simp
              first | exact rfl | exact ⟨rfl, hg⟩
            intro K hK
            rintro _ rfl
            go_simp
            refine hK _ _ ?_
            clear hK K
            refine wpMadeG_step ?_ ?_
            · refine .inl ⟨by rfl, ?_⟩
              intro m' w' hg hag
              go_simp
              first | exact rfl | exact ⟨rfl, hg⟩
            intro K hK
            rintro _ rfl
            go_simp
            refine hK _ _ ?_
            clear hK K
            refine wpMadeG_step ?_ ?_
            · refine .inl ⟨by rfl, ?_⟩
              intro m' w' hg hag
              have q1 := hg.c2
              go_simp
              first | exact rfl | exact ⟨rfl, hg⟩
            intro K hK
            rintro _ rfl
            go_simp
            refine hK _ _ ?_
            clear hK K
            refine wpMadeG_step ?_ ?_
            · refine .inl ⟨by rfl, ?_⟩
              intro m' w' hg hag
              go_simp
              first | exact rfl | exact ⟨rfl, hg⟩
            intro K hK
            rintro _ rfl
            go_simp
            refine hK _ _ ?_
            clear hK K
            refine wpMadeG_step ?_ ?_
            · refine .inl ⟨by rfl, ?_⟩
              intro m' w' hg hag
              go_simp
              first | exact rfl | exact ⟨rfl, hg⟩
            intro K hK
            rintro _ rfl
            go_simp
            refine hK _ _ ?_
            clear hK K
            refine wpMadeG_step ?_ ?_
            · refine .inl ⟨by rfl, ?_⟩
              intro m' w' hg hag
              go_simp
              first | exact rfl | exact ⟨rfl, hg⟩
            intro K hK
            rintro _ rfl
            go_simp
            refine hK _ _ ?_
            clear hK K
            refine wpMadeG_step ?_ ?_
            · refine .inl ⟨by rfl, ?_⟩
              intro m' w' hg hag
              go_simp
              first | exact rfl | exact ⟨rfl, hg⟩
            intro K hK
            rintro _ rfl
            go_simp
            refine hK _ _ ?_
            clear hK K
            refine wpMadeG_step ?_ ?_
            · refine .inl ⟨by rfl, ?_⟩
              intro m' w' hg hag
              have q1 := hg.c3
              go_simp
              first | exact rfl | exact ⟨rfl, hg⟩
            intro K hK
            rintro _ rfl
            go_simp
            refine hK _ _ ?_
            clear hK K
            refine wpMadeG_step ?_ ?_
            · refine .inl ⟨by rfl, ?_⟩
              intro m' w' hg hag
              go_simp
              first | exact rfl | exact ⟨rfl, hg⟩
            intro K hK
            rintro _ rfl
            go_simp
            refine hK _ _ ?_
            clear hK K
            refine wpMadeG_step ?_ ?_
            · refine .inl ⟨by rfl, ?_⟩
              intro m' w' hg hag
              go_simp
              first | exact rfl | exact ⟨rfl, hg⟩
            intro K hK
            rintro _ rfl
            go_simp
            refine hK _ _ ?_
            clear hK K
            refine wpMadeG_step ?_ ?_
            · refine .inl ⟨by rfl, ?_⟩
              intro m' w' hg hag
              go_simp
              first | (show Value.bool _ = Value.bool _; rw [GT.out.2]) | exact ⟨by rw [GT.out.2], hg⟩
            intro K hK
            rintro _ rfl
            go_simp
            refine hK _ _ ?_
            clear hK K
            refine wpMadeG_nil ?_
            intro w' hg
            have GE := Lib.hid hg
            have s3 := hg.s3
            have w3 := hg.w3
            clear hg G7
            simp only at s3 w3
            have m0 := M0.out
            have hw5 : IntKind.i64.wrap (s.d.mi + 1) = s.d.mi + 1 := IntWalk.i64_in _ (by omega)
            have mm := mm.out
            cases hv : s.mv
            all_goals
              rw [hv] at mm
              simp only [Bool.false_eq_true, if_false, if_true] at mm
              rw [mm] at s3
              go_wp2
              go_ret
              exact ⟨by simp <;> omega, GE.out.bel⟩
          · have jl := FI.out.few
            have HS := Lib.hid (FI.out.step M0.out.1 M0.out.2)
            go_wp2_with fail
            refine HS.out.mono ?_
            rintro e w5 ⟨n5, y5, rfl, n1, f5, p5⟩
            have n0 : ¬ n5 < 1 := by omega
            have F5 := Lib.hid f5
            have B5 := Lib.hid (BG.out.kp p5 rfl)
            clear f5 p5 HS FI BG c21
            go_wp2
            go_roundw
            case rel => exact ⟨j + 1, y5, by omega, by go_num, F5, B5⟩
            case measure => simp [intOf]; omega
end Gc
end Go.Proofs.YthmhehehomieiaaGreat

/- What was met, in a box beside the core; the walk of meet. -/
namespace Go.Proofs.YthmhehehomieiaaGreat
namespace Gc
open Go.RowKit

theorem ix_eq {a : Int} : ∀ {l : List Int} {i : Nat}, l[i]? = some a → (∀ j < i, l[j]? ≠ some a) → ix a l = some i
  | [], _, h, _ => by simp at h
  | b :: l, 0, h, _ => by
    have : b = a := by simpa using h
    unfold ix
    rw [if_pos this]
  | b :: l, i + 1, h, n => by
    have nb : b ≠ a := fun e => n 0 (by omega) (by simp [e])
    unfold ix
    rw [if_neg nb, ix_eq (l := l) (i := i) (by simpa using h) fun j hj => by have := n (j + 1) (by omega); simpa using this]
    rfl
theorem ix_no {a : Int} {l : List Int} (h : ∀ j < l.length, l[j]? ≠ some a) : ix a l = none := ix_none.2 fun m => by
  obtain ⟨j, hj, e⟩ := List.getElem_of_mem m
  exact h j hj (by rw [List.getElem?_eq_getElem hj, e])

/-- A core, and what was met in a box beside it; blocks of Z are another's. -/
def Mw (w0 w : World) (Z : Nat → Prop) (b : Nat) (s : Co) (mb : Nat) (A : Option Addr) (n c : Nat) (met : List Int) : Prop :=
  Km w0 w (fun k => Z k ∨ k = mb ∨ blkOf A = some k) b s ∧ Qu w A n c met ∧ Blk w mb #[.slice A n c] 39 ∧ ¬ Z mb ∧ blkOf A ≠ some mb ∧ ∀ k, blkOf A = some k → ¬ Z k

section
variable {w0 w w' : World} {Z Z' : Nat → Prop} {b mb n c : Nat} {s : Co} {A : Option Addr} {met : List Int}

theorem Mw.write {T : Nat → Prop} (h : Mw w0 w Z b s mb A n c met) (f : Frm T w w') (ht : ∀ k, k < w.heap.size → T k → Z k) (hz : ∀ k, Z' k → Z k ∨ (w.heap.size ≤ k ∧ k < w'.heap.size)) : Mw w0 w' Z' b s mb A n c met := by
  obtain ⟨k, q, x, h1, h2, h3⟩ := h
  refine ⟨k.write f (fun j hj e => .inl (ht j hj e)) (fun j hj => ?_), q.frm f fun j hj e => h3 j hj (ht j (q.lt hj) e), x.frm f fun e => h1 (ht _ x.lt e), fun e => ?_, h2, fun j hj e => ?_⟩
  · rcases hj with e | e | e
    · exact (hz j e).imp .inl id
    · exact .inl (.inr (.inl e))
    · exact .inl (.inr (.inr e))
  · rcases hz _ e with z | z
    · exact h1 z
    · have := x.lt; omega
  · rcases hz _ e with z | z
    · exact h3 j hj z
    · have := q.lt hj; omega
theorem Mw.keep (h : Mw w0 w Z b s mb A n c met) (f : Below w.heap.size w w') : Mw w0 w' Z b s mb A n c met :=
  h.write (T := fun _ => False) (Frm.of_below f) (fun _ _ e => e.elim) fun _ => .inl
theorem Mw.less (h : Mw w0 w Z b s mb A n c met) (hz : ∀ k, Z' k → Z k) : Mw w0 w Z' b s mb A n c met :=
  h.write (T := fun _ => False) (Frm.of_below (Below.refl _ w)) (fun _ _ e => e.elim) fun k hk => .inl (hz k hk)

/-- A call that leaves the core as it is. -/
theorem Mw.look {P : Program} {fn : FuncId} {args : Array Value} {R : Ending → Prop} (h : Mw w0 w Z b s mb A n c met) (q : ∀ S, Cr w b S s → Calls P fn args w fun e w' => R e ∧ CoR w b S s w') :
    Calls P fn args w fun e w' => R e ∧ Mw w0 w' Z b s mb A n c met ∧ Kp Z w w' := by
  obtain ⟨k, qu, x, h1, h2, h3⟩ := h
  refine (k.look q).mono ?_
  rintro e w' ⟨r, k2, p⟩
  exact ⟨r, ⟨k2, qu.kp p fun j hj => .inr (.inr hj), x.kp p (.inr (.inl rfl)), h1, h2, h3⟩, p.mono fun j _ hn hz => hn (.inl hz)⟩

/-- One more is met. -/
theorem Mw.more {w1 w2 : World} {A' : Option Addr} {c' : Nat} {p : Int} (h : Mw w0 w Z b s mb A n c met) (f : Below w.heap.size w w1) (q : Qu w2 A' (n + 1) c' (met ++ [p])) (g : Grw A A' w1 w2) :
    Mw w0 (w2.setCell ⟨mb, 0, none⟩ (.slice A' (n + 1) c')) Z b s mb A' (n + 1) c' (met ++ [p]) ∧ Kp Z w (w2.setCell ⟨mb, 0, none⟩ (.slice A' (n + 1) c')) ∧ w2.cell? ⟨mb, 0, none⟩ = some (.slice A n c) ∧ w2.frozen? ⟨mb, 0, none⟩ = false := by
  obtain ⟨k, qu, x, h1, h2, h3⟩ := h.keep f
  have na : blkOf A' ≠ some mb := fun e => by
    rcases g.at_ _ e with z | z
    · exact h2 z
    · have := x.lt; omega
  have x2 := x.frm g.frm fun e => h2 e
  have fr : Frm (fun j => j = mb ∨ blkOf A = some j) w1 (w2.setCell ⟨mb, 0, none⟩ (.slice A' (n + 1) c')) := (g.frm.mono fun j _ e => .inr e).setCell (p := ⟨mb, 0, none⟩) (fun _ => .inl rfl) _
  have sz : (w2.setCell ⟨mb, 0, none⟩ (.slice A' (n + 1) c')).heap.size = w2.heap.size := by simp
  refine ⟨⟨k.write fr (fun j _ e => .inr e) fun j hj => ?_, q.frm (show Frm (fun j => j = mb) w2 (w2.setCell ⟨mb, 0, none⟩ (.slice A' (n + 1) c')) from Frm.setCell (S := fun j => j = mb) (Frm.refl _ _) (p := ⟨mb, 0, none⟩) (fun _ => rfl) _) fun j hj e => na (e ▸ hj), by have := x2.set_ 0 (.slice A' (n + 1) c'); simpa using this, h1, na, fun j hj e => ?_⟩, (Kp.of_below f).trans (fr.mono fun j _ e z => e.elim (fun e => h1 (e ▸ z)) fun e => h3 j e z), x2.cell 0, x2.frozen 0⟩
  · rcases hj with e | e | e
    · exact .inl (.inl e)
    · exact .inl (.inr (.inl e))
    · rcases g.at_ _ e with z | z
      · exact .inl (.inr (.inr z))
      · exact .inr ⟨z, by rw [sz]; exact q.lt e⟩
  · rcases g.at_ _ hj with z | z
    · exact h3 j z e
    · have := (k.low j (.inl e)).2; omega
end

/-- What a call of meet comes to. -/
def MtR (w0 w : World) (Z : Nat → Prop) (b : Nat) (s : Co) (mb : Nat) (r : List Int × Int) (e : Ending) (w' : World) : Prop :=
  e = .returned (.int .i64 r.2) ∧ (∃ A c, Mw w0 w' Z b s mb A r.1.length c r.1) ∧ Kp Z w w'

set_option maxHeartbeats 4000000 in
theorem meet14_any {w0 w : World} {Z : Nat → Prop} {b mb n c : Nat} {s : Co} {H : Hp} {A : Option Addr} {met : List Int} (h : Mw w0 w Z b s mb A n c met) (cy : Cyc s H) {y : Int} (hy : H.ok y) (few : met.length ≤ 1048575) :
    Calls Tryz.prog 96 #[ptr b, .pointer (some ⟨mb, 0, none⟩), .int .i64 y] w (MtR w0 w Z b s mb (meet H.now met y)) := by
  have HN := Lib.hid (h.look fun S hC => now_sim hC cy.sim cy.inv hy)
  have LN := Lib.hid h.2.1.len
  have MT : ∀ q, H.now y = q → Hid ((q = 0 → meet H.now met y = (met, 0)) ∧ (∀ i : Nat, q ≠ 0 → met[i]? = some q → (∀ j < i, met[j]? ≠ some q) → meet H.now met y = (met, (i : Int) + 1)) ∧ (q ≠ 0 → (∀ j < met.length, met[j]? ≠ some q) → meet H.now met y = (met ++ [q], (met.length : Int) + 1))) := fun q e => Lib.hid (by
    subst e
    refine ⟨fun e => ?_, fun i n0 e hj => ?_, fun n0 hj => ?_⟩
    · unfold meet; rw [if_pos e]
    · unfold meet; rw [if_neg n0, ix_eq e hj]
    · unfold meet; rw [if_neg n0, ix_no hj])
  have MQ := MT _ rfl
  clear MT h cy hy
  generalize meet H.now met y = R at *
  go_enter Tryz.func96, Tryz.ntmps96
  go_wp2_with fail
  refine HN.out.mono ?_
  rintro e w1 ⟨rfl, m1, p1⟩
  generalize H.now y = q at *
  have M1 := Lib.hid m1
  have P1 := Lib.hid p1
  clear p1 HN
  by_cases q0 : q = 0
  · have RE : Hid (MtR w0 w Z b s mb R (.returned (.int .i64 0)) w1) := Lib.hid ⟨by rw [MQ.out.1 q0], by rw [MQ.out.1 q0]; exact ⟨A, c, by rw [LN.out]; exact m1⟩, P1.out⟩
    subst q0
    clear m1 M1 P1
    go_wp2
    go_ret
    exact RE.out
  · have mc : w1.cell? ⟨mb, 0, none⟩ = some (.slice A n c) := m1.2.2.1.cell 0
    have nf : n ≤ 1048575 := by have := LN.out; omega
    clear m1
    go_wp2_with fail
    clear mc
    go_loopw [8] (fun s8 wr => ∃ i : Nat, i ≤ n ∧ s8 = .int .i64 i ∧ wr = w1 ∧ Hid (∀ j < i, met[j]? ≠ some q)) (fun s8 _ => n - (intOf s8).toNat)
    case atStart => exact ⟨0, Nat.zero_le _, rfl, rfl, Lib.hid fun j hj => absurd hj (Nat.not_lt_zero j)⟩
    case round =>
      obtain ⟨i, hi, rfl, rfl, HJ⟩ := hrel
      by_cases hlt : i < n
      · have hx : met[i]? = some (met[i]'(by have := LN.out; omega)) := List.getElem?_eq_getElem _
        generalize met[i]'(by have := LN.out; omega) = x at hx
        obtain ⟨g1, o1, rfl, _, d1, _⟩ := M1.out.2.1.at_ (by omega)
        have x1 := d1 i x hx
        have j0 : (0 : Int) ≤ (i : Int) := by omega
        have j1 : (i : Int) < (n : Int) := by omega
        by_cases e : x = q
        · have RE : Hid (MtR w0 w Z b s mb R (.returned (.int .i64 ((i : Int) + 1))) wr) := Lib.hid (by
            have z := MQ.out.2.1 i q0 (by rw [hx, e]) HJ.out
            exact ⟨by rw [z], by rw [z]; exact ⟨_, c, by rw [LN.out]; exact M1.out⟩, P1.out⟩)
          have i6 : i ≤ 1048576 := by have := LN.out; omega
          have hw : IntKind.i64.wrap ((i : Int) + 1) = (i : Int) + 1 := IntWalk.i64_in _ (by omega)
          subst e
          clear d1 hx HJ M1 P1 MQ
          go_wp2
          go_ret
          exact RE.out
        · have HK := Lib.hid (show ∀ j < i + 1, met[j]? ≠ some q from fun j hj => by
            by_cases z : j = i
            · subst z; rw [hx]; simpa using e
            · exact HJ.out j (by omega))
          have e2 : (x == q) = false := by rw [beq_eq_false_iff_ne]; exact e
          clear d1 hx HJ
          go_wp2
          go_roundw
          case rel => exact ⟨i + 1, by omega, by go_num, by simp, HK⟩
          case measure => simp [intOf]; omega
      · obtain rfl : n = i := by omega
        have qu := M1.out.2.1
        have f1 := (Below.refl _ wr).alloc (Nat.le_refl _) (.cells #[.int .i64 q] 3)
        have Q2 := Lib.hid (qu.keep f1)
        have E2 := Lib.hid (show (wr.alloc (.cells #[.int .i64 q] 3)).cell? ⟨wr.heap.size, 0, none⟩ = some (.int .i64 q) from (Blk.new wr #[.int .i64 q] 3).cell 0)
        have F1 := Lib.hid f1
        clear qu f1
        go_wp2_with (first
          | (at_builtin; (refine wpList_append_qu _ rfl _ _ rfl Q2.out (by have := LN.out; omega) q ⟨wr.heap.size, 0, none⟩ 1 rfl rfl E2.out ?_))
          | fail)
        intro A' c' w2 q2 g2
        obtain ⟨m3, p3, ex2, cf2⟩ := M1.out.more F1.out q2 g2
        have hl := LN.out
        have RE : Hid (MtR w0 w Z b s mb R (.returned (.int .i64 ((n : Int) + 1))) (w2.setCell ⟨mb, 0, none⟩ (.slice A' (n + 1) c'))) := Lib.hid (by
          have z := MQ.out.2.2 q0 (by rw [hl]; exact HJ.out)
          refine ⟨by rw [z, hl], by rw [z]; exact ⟨A', c', by rw [List.length_append, hl]; exact m3⟩, P1.out.trans p3⟩)
        have hw : IntKind.i64.wrap ((n : Int) + 1) = (n : Int) + 1 := IntWalk.i64_in _ (by omega)
        clear m3 p3 q2 g2 Q2 E2 F1 MQ HJ M1 P1
        go_wp2
        go_ret
        exact RE.out
end Gc
end Go.Proofs.YthmhehehomieiaaGreat

/- What shown's walk is told: lists, what is met, what was written so far beside the core. -/
namespace Go.Proofs.YthmhehehomieiaaGreat
open Go.RowKit

/-- Two more behind a slice's last. -/
theorem Qu.append2 {w : World} {A : Option Addr} {n c : Nat} {xs : List Int} (h : Qu w A n c xs) (few : n ≤ 1048576) (x y : Int) (ad : Addr) (k : Nat) (hc : w.cell? ad = some (.int .i64 x)) (hc2 : w.cell? (ad.add 1) = some (.int .i64 y)) (ty : TypeId) :
    ∃ A' c' w', (Builtin.append_ #[39, 39] ty #[.slice A n c, .slice (some ad) 2 k]).run Tryz.prog w = .ok (.slice A' (n + 2) c') w' ∧ Qu w' A' (n + 2) c' (xs ++ [x, y]) ∧ Grw A A' w w' := by
  obtain ⟨i0, hi, hz, hs, hby⟩ := info_parts info_int
  have hnews : ∀ j u, [Value.int .i64 x, Value.int .i64 y][j]? = some u → w.cell? (ad.add j) = some u := by
    intro j u hj
    match j, hj with
    | 0, hj => simp at hj; subst hj; simpa [Addr.add] using hc
    | 1, hj => simp at hj; subst hj; exact hc2
  have hone : ∀ u ∈ [Value.int .i64 x, Value.int .i64 y], u.oneCell' = true := by
    intro u hu
    rcases List.mem_cons.1 hu with e | hu
    · rw [e]; rfl
    · rw [List.mem_singleton.1 hu]; rfl
  have hlx : (ints xs).length = n * 1 := by rw [ints, List.length_map, h.len]; omega
  have ea : ints xs ++ [.int .i64 x, .int .i64 y] = ints (xs ++ [x, y]) := by simp [ints]
  rcases h.lies with ⟨rfl, rfl⟩ | ⟨g, off, cs, rfl, hb, hsz, hx⟩
  · have hn : n = 0 := by have := h.le; omega
    subst hn
    obtain rfl : xs = [] := List.eq_nil_of_length_eq_zero h.len
    obtain ⟨v', w', hrun, r1, r2, _⟩ := run_append_own (P := Tryz.prog) w w.heap.size 39 ty 3 i0 (.int .i64 0) 1 8 Tryz.underlying39 hi hz hs hby rfl (by decide) (.slice none 0 0) 0 [] (World.ownsRow_nil w _ 3 1) ad 2 k [.int .i64 x, .int .i64 y] rfl hnews hone (by decide) (by decide) (Nat.le_refl _)
    obtain ⟨g', cap, rfl, hB, q⟩ := Qu.of_own (xs := [x, y]) (by omega) r1
    exact ⟨_, _, w', hrun, q, frm_none r2, fun k hk => by cases hk; exact .inr hB⟩
  · by_cases hr : n + 2 ≤ c
    · have hlt : off + n + 1 < cs.size := by omega
      have hrun := run_append_room_cells (P := Tryz.prog) w 39 ty 3 i0 Tryz.underlying39 hi g off n c ad 2 k [.int .i64 x, .int .i64 y] (by rw [hs]; rfl) hnews hone hr
        (fun j hj => by
          have hj : j < 2 := hj
          rw [hs, hb.cell, Nat.mul_one]
          have : off + n + j < cs.size := by omega
          simp [this]) (fun j hj => hb.frozen _)
      rw [hs, Nat.mul_one] at hrun
      have X1 := (hb.set_ (off + n) (.int .i64 x)).set_ (off + n + 1) (.int .i64 y)
      have F1 : Frm (fun k => blkOf (some ⟨g, off, none⟩) = some k) w ((w.setCell ⟨g, off + n, none⟩ (.int .i64 x)).setCell ⟨g, off + n + 1, none⟩ (.int .i64 y)) :=
        Frm.setCell (S := fun k => blkOf (some ⟨g, off, none⟩) = some k) (Frm.setCell (S := fun k => blkOf (some ⟨g, off, none⟩) = some k) (Frm.refl _ _) (p := ⟨g, off + n, none⟩) (fun _ => rfl) _) (p := ⟨g, off + n + 1, none⟩) (fun _ => rfl) _
      refine ⟨_, _, _, hrun, ⟨by rw [List.length_append, h.len]; rfl, hr, h.max, .inr ⟨g, off, _, rfl, X1, by simpa using hsz, fun i y' hy => ?_⟩⟩, F1, fun k hk => .inl hk⟩
      rw [Array.getElem?_setIfInBounds, Array.getElem?_setIfInBounds, Array.size_setIfInBounds]
      by_cases hin : i < n
      · rw [List.getElem?_append_left (by rw [h.len]; exact hin)] at hy
        rw [if_neg (by omega), if_neg (by omega)]
        exact hx i y' hy
      · rw [List.getElem?_append_right (by rw [h.len]; omega), h.len] at hy
        have lt := (List.getElem?_eq_some_iff.1 hy).1
        have lt : i - n < 2 := by simpa using lt
        by_cases e0 : i = n
        · subst e0
          rw [Nat.sub_self] at hy
          simp at hy
          subst hy
          rw [if_neg (by omega), if_pos (by omega), if_pos (by omega)]
        · obtain rfl : i = n + 1 := by omega
          rw [show n + 1 - n = 1 by omega] at hy
          simp at hy
          subst hy
          rw [if_pos (by omega), if_pos (by omega)]
    · obtain ⟨v', w', hrun, r1, r2⟩ := run_append_arg_grows (P := Tryz.prog) w 39 ty 3 i0 (.int .i64 0) 1 8 Tryz.underlying39 hi hz hs hby rfl (by decide) ⟨g, off, none⟩ n c (ints xs) hlx
        (fun j u hj => by
          rw [Addr.add_lit, hb.cell]
          rw [ints, List.getElem?_map] at hj
          cases e : xs[j]? with
          | none => rw [e] at hj; cases hj
          | some y => rw [e] at hj; cases hj; exact hx j y e)
        ad 2 k [.int .i64 x, .int .i64 y] rfl hnews (by omega) (by unfold maxLen; omega) (by omega)
      rw [ea] at r1
      obtain ⟨g', cap, rfl, hB, q⟩ := Qu.of_own (by omega) r1
      exact ⟨_, _, w', hrun, q, frm_none r2, fun k hk => by cases hk; exact .inr hB⟩

theorem wpList_append_qu2 (w : World) {ops : Array Oper} {rest : List Oper} {o : Oper} {a : Act} {Q : Exit → Act → World → Prop} (hgd : o.guard = none) (s x : Operand)
    (ho : o.op = .call { callee := .builtin .append, args := #[s, x], argTypes := #[39, 39] }) {A : Option Addr} {n c : Nat} {xs : List Int} (h : Qu w A n c xs) (few : n ≤ 1048576) (y z : Int) (ad : Addr) (k : Nat)
    (hs : a.eval s = .slice A n c) (hx : a.eval x = .slice (some ad) 2 k) (hc : w.cell? ad = some (.int .i64 y)) (hc2 : w.cell? (ad.add 1) = some (.int .i64 z))
    (hK : ∀ A' c' w', Qu w' A' (n + 2) c' (xs ++ [y, z]) → Grw A A' w w' → wpList Tryz.prog ops Q rest (a.put o.dst (.slice A' (n + 2) c')) w') : wpList Tryz.prog ops Q (o :: rest) a w := by
  refine wpList_plain hgd fun K hK' => ?_
  obtain ⟨A', c', w', hrun, q, g⟩ := h.append2 few y z ad k hc hc2 o.type
  unfold Oper.wp execOp
  simp only [ho, resolve, invoke, builtin, Sem.run_bind, Sem.run_pure, Result.andThen_ok, List.map_toArray, List.map_cons, List.map_nil, hs, hx, hrun]
  exact hK' _ _ (hK A' c' w' q g)

namespace Gc
section
variable {now cv : Int → Int}
theorem meets_snoc : ∀ (ys met : List Int) (y : Int), meets now met (ys ++ [y]) = ((meet now (meets now met ys).1 y).1, (meets now met ys).2 ++ [(meet now (meets now met ys).1 y).2])
  | [], met, y => rfl
  | x :: ys, met, y => by
    rw [List.cons_append]
    unfold meets
    rw [meets_snoc ys]
    rfl

/-- What is told of an object, so far k of its words. -/
def tl (now cv : Int → Int) (met rs ss : List Int) (k : Nat) : List Int × List Int :=
  ((meets now met (rs.take k)).1, ((rs.length + ss.length : Nat) : Int) :: (rs.length : Int) :: ((meets now met (rs.take k)).2 ++ (ss.take (k - rs.length)).map cv))
variable {met rs ss : List Int} {k : Nat}
theorem tl_zero : tl now cv met rs ss 0 = (met, [((rs.length + ss.length : Nat) : Int), (rs.length : Int)]) := by
  unfold tl
  rw [List.take_zero, Nat.zero_sub, List.take_zero]
  rfl
theorem tl_ref {r : Int} (hr : rs[k]? = some r) : tl now cv met rs ss (k + 1) = ((meet now (tl now cv met rs ss k).1 r).1, (tl now cv met rs ss k).2 ++ [(meet now (tl now cv met rs ss k).1 r).2]) := by
  have lt := (List.getElem?_eq_some_iff.1 hr).1
  have e : rs.take (k + 1) = rs.take k ++ [r] := by rw [List.take_add_one, hr]; rfl
  unfold tl
  rw [e, meets_snoc, show k + 1 - rs.length = 0 by omega, show k - rs.length = 0 by omega, List.take_zero]
  simp
theorem tl_sca {v : Int} (hk : rs.length ≤ k) (hv : ss[k - rs.length]? = some v) : tl now cv met rs ss (k + 1) = ((tl now cv met rs ss k).1, (tl now cv met rs ss k).2 ++ [cv v]) := by
  unfold tl
  rw [List.take_of_length_le hk, List.take_of_length_le (show rs.length ≤ k + 1 by omega), show k + 1 - rs.length = (k - rs.length) + 1 by omega, List.take_add_one, hv]
  simp
theorem tl_end : tl now cv met rs ss (rs.length + ss.length) = toldOb now cv met (rs, ss) := by
  unfold tl toldOb
  rw [List.take_of_length_le (Nat.le_add_right _ _), show rs.length + ss.length - rs.length = ss.length by omega, List.take_of_length_le (Nat.le_refl ss.length)]
end

/-- What is met are few. -/
theorem Met.le {s : Co} {A : Hp} (c : Cyc s A) {met : List Int} (hm : Met A met) : (met.length : Int) ≤ 2 * s.cf.nu + s.cf.ps * s.cf.pz + 1 := by
  have lu := c.sim.laid.used
  have le := c.sim.laid.le
  have pl := c.sim.pl
  have g0 := c.sim.laid.g0
  have n0 := c.sim.laid.n0
  have h2 := hAt_two s.cf.nu s.yn
  have h3 := hAt_two s.cf.nu (!s.yn)
  have pz0 : 0 ≤ s.cf.ps * s.cf.pz := by rw [← pl]; exact Int.mul_nonneg (by omega) (by omega)
  have bd : ∀ p ∈ met, 0 < p ∧ p ≤ 1 + 2 * s.cf.nu + s.cf.ps * s.cf.pz := fun p hp => by
    obtain ⟨h1, _⟩ := hm.2 p hp
    have p0 := c.inv.pos p (by rcases h1 with e | e | e <;> simp [e])
    refine ⟨p0, ?_⟩
    rcases h1 with e | e | e
    · have z := (c.sim.laid.in_iff c.inv (.inr (.inl e))).2 e
      unfold inH at z
      rw [Bool.and_eq_true, decide_eq_true_eq, decide_eq_true_eq] at z
      omega
    · obtain ⟨r, ⟨hr, _⟩, rfl⟩ := (c.sim.laid.old p).1 e
      have w1 := cells_within g0 c.sim.laid.wf hr
      have w2 := words_pos g0 c.sim.laid.wf hr
      rw [pl] at w1
      omega
    · have z := (c.sim.laid.from_iff c.inv (.inr (.inr (.inl e)))).2 e
      unfold inH at z
      rw [Bool.and_eq_true, decide_eq_true_eq, decide_eq_true_eq] at z
      omega
  have hn := nodup_length (l := met) (m := (List.range (1 + 2 * s.cf.nu + s.cf.ps * s.cf.pz).toNat).map fun i : Nat => (i : Int) + 1) hm.1 fun p hp => by
    have := bd p hp
    exact List.mem_map.2 ⟨(p - 1).toNat, List.mem_range.2 (by omega), by omega⟩
  rw [List.length_map, List.length_range] at hn
  omega

/-- A core, what was met in a box beside it, and what was written so far; blocks of X are the caller's. -/
structure Sh (w0 wb w : World) (Z X : Nat → Prop) (b : Nat) (s : Co) (mb : Nat) (A : Option Addr) (c : Nat) (met : List Int) (Ao : Option Addr) (co : Nat) (out : List Int) : Prop where
  mw : Mw w0 w (fun k => Z k ∨ X k ∨ blkOf Ao = some k) b s mb A met.length c met
  qu : Qu w Ao out.length co out
  ap : ∀ k, blkOf Ao = some k → wb.heap.size ≤ k ∧ ¬ Z k ∧ ¬ X k
  kp : Kp Z wb w

section
variable {w0 wb w w' : World} {Z X X' : Nat → Prop} {b mb c co : Nat} {s : Co} {A Ao : Option Addr} {met out : List Int} {H : Hp}

theorem Sh.turn (h : Sh w0 wb w Z X b s mb A c met Ao co out) (f : Below w.heap.size w w') (hx : ∀ k, X' k → X k ∨ (w.heap.size ≤ k ∧ k < w'.heap.size)) : Sh w0 wb w' Z X' b s mb A c met Ao co out :=
  ⟨h.mw.write (T := fun _ => False) (Frm.of_below f) (fun _ _ e => e.elim) fun k hk => by
    rcases hk with e | e | e
    · exact .inl (.inl e)
    · exact (hx k e).imp (fun e => .inr (.inl e)) id
    · exact .inl (.inr (.inr e)), h.qu.keep f, fun k hk => by
      obtain ⟨h1, h2, h3⟩ := h.ap k hk
      refine ⟨h1, h2, fun e => ?_⟩
      rcases hx k e with z | z
      · exact h3 z
      · have := h.qu.lt hk; omega, h.kp.trans (Kp.of_below f)⟩
theorem Sh.keep (h : Sh w0 wb w Z X b s mb A c met Ao co out) (f : Below w.heap.size w w') : Sh w0 wb w' Z X b s mb A c met Ao co out := h.turn f fun _ => .inl

theorem Sh.look {P : Program} {fn : FuncId} {args : Array Value} {R : Ending → Prop} (h : Sh w0 wb w Z X b s mb A c met Ao co out) (q : ∀ S, Cr w b S s → Calls P fn args w fun e w' => R e ∧ CoR w b S s w') :
    Calls P fn args w fun e w' => R e ∧ Sh w0 wb w' Z X b s mb A c met Ao co out ∧ Kp X w w' :=
  (h.mw.look q).mono fun _ _ ⟨r, m, k⟩ => ⟨r, ⟨m, h.qu.kp k fun _ hj => .inr (.inr hj), h.ap, h.kp.trans (k.mono fun _ _ hn hz => hn (.inl hz))⟩, k.mono fun _ _ hn hz => hn (.inr (.inl hz))⟩

theorem Sh.meet (h : Sh w0 wb w Z X b s mb A c met Ao co out) (cy : Cyc s H) {y : Int} (hy : H.ok y) (few : met.length ≤ 1048575) :
    Calls Tryz.prog 96 #[ptr b, .pointer (some ⟨mb, 0, none⟩), .int .i64 y] w fun e w' => e = .returned (.int .i64 (Gc.meet H.now met y).2) ∧ (∃ A' c', Sh w0 wb w' Z X b s mb A' c' (Gc.meet H.now met y).1 Ao co out) ∧ Kp X w w' :=
  (meet14_any h.mw cy hy few).mono fun _ _ ⟨he, ⟨A', c', m⟩, k⟩ => ⟨he, ⟨A', c', m, h.qu.kp k fun _ hj => .inr (.inr hj), h.ap, h.kp.trans (k.mono fun _ _ hn hz => hn (.inl hz))⟩, k.mono fun _ _ hn hz => hn (.inr (.inl hz))⟩

/-- More is written. -/
theorem Sh.app {w1 w2 : World} {Ao' : Option Addr} {co' n : Nat} {ys : List Int} (h : Sh w0 wb w Z X b s mb A c met Ao co out) (f : Below w.heap.size w w1) (q : Qu w2 Ao' n co' (out ++ ys)) (g : Grw Ao Ao' w1 w2) :
    Sh w0 wb w2 Z X b s mb A c met Ao' co' (out ++ ys) ∧ Kp X w w2 := by
  have h1 := h.keep f
  have hn : n = (out ++ ys).length := q.len.symm
  subst hn
  have bs : wb.heap.size ≤ w1.heap.size := h1.kp.size
  refine ⟨⟨h1.mw.write g.frm (fun k _ e => .inr (.inr e)) fun k hk => ?_, q, fun k hk => ?_, h1.kp.trans (g.frm.mono fun k _ e hz => (h1.ap k e).2.1 hz)⟩, (Kp.of_below f).trans (g.frm.mono fun k _ e hz => (h1.ap k e).2.2 hz)⟩
  · rcases hk with e | e | e
    · exact .inl (.inl e)
    · exact .inl (.inr (.inl e))
    · rcases g.at_ k e with z | z
      · exact .inl (.inr (.inr z))
      · exact .inr ⟨z, q.lt e⟩
  · rcases g.at_ k hk with z | z
    · exact h1.ap k z
    · refine ⟨by omega, fun e => ?_, fun e => ?_⟩
      · have := (h1.mw.1.low k (.inl (.inl e))).2; omega
      · have := (h1.mw.1.low k (.inl (.inr (.inl e)))).2; omega

/-- It begins with nothing. -/
theorem sh_start (k : Km w0 w Z b s) : Sh w0 w (((w.alloc (.cells #[] 3)).alloc (.cells #[] 3)).alloc (.cells #[.slice (some ⟨w.heap.size + 1, 0, none⟩) 0 0] 39)) Z noZ b s (w.heap.size + 2) (some ⟨w.heap.size + 1, 0, none⟩) 0 [] (some ⟨w.heap.size, 0, none⟩) 0 [] := by
  have f1 := (Below.refl _ w).alloc (Nat.le_refl _) (.cells #[] 3)
  have f2 := (Below.refl _ (w.alloc (.cells #[] 3))).alloc (Nat.le_refl _) (.cells #[] 3)
  have f3 := (Below.refl _ ((w.alloc (.cells #[] 3)).alloc (.cells #[] 3))).alloc (Nat.le_refl _) (.cells #[.slice (some ⟨w.heap.size + 1, 0, none⟩) 0 0] 39)
  have f12 := below_trans f1 f2
  have q1 := Qu.fresh w
  have q2 := Qu.fresh (w.alloc (.cells #[] 3))
  have x3 := Blk.new ((w.alloc (.cells #[] 3)).alloc (.cells #[] 3)) #[.slice (some ⟨w.heap.size + 1, 0, none⟩) 0 0] 39
  have e1 : (w.alloc (.cells #[] 3)).heap.size = w.heap.size + 1 := by simp
  have e2 : ((w.alloc (.cells #[] 3)).alloc (.cells #[] 3)).heap.size = w.heap.size + 2 := by simp
  rw [e1] at q2
  rw [e2] at x3
  have f := below_trans f12 f3
  have nz : ∀ j, w.heap.size ≤ j → ¬ Z j := fun j hj hz => by have := (k.low j hz).2; omega
  have bo : ∀ u j, blkOf (some ⟨u, 0, none⟩) = some j ↔ u = j := fun u j => by simp [blkOf]
  refine ⟨⟨k.grow f fun j hj => ?_, q2.keep f3, x3, ?_, ?_, fun j hj => ?_⟩, (q1.keep f2).keep f3, fun j hj => ?_, Kp.of_below f⟩
  · have e3 : (((w.alloc (.cells #[] 3)).alloc (.cells #[] 3)).alloc (.cells #[.slice (some ⟨w.heap.size + 1, 0, none⟩) 0 0] 39)).heap.size = w.heap.size + 3 := by simp
    rcases hj with (e | e | e) | e | e
    · exact .inl e
    · exact e.elim
    · have := (bo _ _).1 e; exact .inr (by omega)
    · exact .inr (by omega)
    · have := (bo _ _).1 e; exact .inr (by omega)
  · rintro (e | e | e)
    · exact nz _ (by omega) e
    · exact e
    · have := (bo _ _).1 e; omega
  · intro e; have := (bo _ _).1 e; omega
  · have := (bo _ _).1 hj
    rintro (e | e | e)
    · exact nz _ (by omega) e
    · exact e
    · have := (bo _ _).1 e; omega
  · have := (bo _ _).1 hj
    exact ⟨by omega, nz _ (by omega), fun e => e⟩
end
end Gc
end Go.Proofs.YthmhehehomieiaaGreat

/- The walk of shown: what stands in a heap, as numbers. -/
namespace Go.Proofs.YthmhehehomieiaaGreat
namespace Gc
open Go.RowKit

abbrev cvI : Int → Int := IntKind.i64.wrap

theorem meet_at {now : Int → Int} {met : List Int} {y p : Int} {i : Nat} (h : met[i]? = some p) : (meet now met y).1[i]? = some p := by
  unfold meet
  split
  · exact h
  · split
    · exact h
    · show (met ++ [now y])[i]? = some p
      rw [List.getElem?_append_left (List.getElem?_eq_some_iff.1 h).1, h]
theorem meets_len {now : Int → Int} : ∀ (ys met : List Int), (meets now met ys).2.length = ys.length
  | [], _ => rfl
  | y :: ys, met => by
    unfold meets
    rw [List.length_cons, List.length_cons, meets_len ys]
theorem told_done {now cv : Int → Int} {dat : Int → List Int × List Int} {met out : List Int} : ∀ (n i : Nat), met[i]? = none → told now cv dat n i met out = out
  | 0, _, _ => rfl
  | n + 1, i, h => by unfold told; rw [h]
theorem told_step {now cv : Int → Int} {dat : Int → List Int × List Int} {met out : List Int} {n i : Nat} {q : Int} (h : met[i]? = some q) : told now cv dat (n + 1) i met out = told now cv dat n (i + 1) (toldOb now cv met (dat q)).1 (out ++ (toldOb now cv met (dat q)).2) := by
  rw [told, h]

theorem c13_of {w : World} {b : Nat} {S : Nat → Prop} {s : Co} (hC : Cr w b S s) : w.cell? ⟨b, 13, none⟩ = some (arP s.pt.a) := by
  obtain ⟨P, own, h0, rfl, rfl⟩ := hC
  have : s.pt.a = P.a := by rw [h0.pts]; rfl
  rw [this]; exact h0.cell 13
theorem head13 {w : World} {b : Nat} {S : Nat → Prop} {s : Co} (hC : Cr w b S s) {A : Hp} (c : Cyc s A) {q : Int} {o : Ob} (ho : A.ob q = some o) :
    Calls Tryz.prog 54 #[arP s.pt.a, .int .i64 q] w fun e w' => e = .returned (.tuple #[hdV (o.n : Nat) o.rs.length o.age o.par o.grey o.noted (decide (q ∈ A.O)), .int .i64 0]) ∧ CoR w b S s w' := by
  have at_ := c.sim.laid.lies.at_ q o ho
  obtain ⟨a, c13, H⟩ := head_co hC q _ _ _ _ _ _ _ (c.inv.ob_pos ho) at_.head at_.good
  have e := c13.symm.trans (c13_of hC)
  have e : arP a = arP s.pt.a := by simpa using e
  rw [← e]
  exact H
theorem field13 {w : World} {b : Nat} {S : Nat → Prop} {s : Co} (hC : Cr w b S s) {A : Hp} (c : Cyc s A) {q : Int} {o : Ob} (ho : A.ob q = some o) {k : Nat} {x : Int} (hx : (o.rs ++ o.ss)[k]? = some x) :
    Calls Tryz.prog 91 #[arP s.pt.a, .int .i64 q, .int .i64 k] w fun e w' => e = .returned (.tuple #[.int .u64 x, .int .i64 0]) ∧ CoR w b S s w' := by
  have at_ := c.sim.laid.lies.at_ q o ho
  have gd := (goodB_iff ..).1 at_.good
  have q0 := c.inv.ob_pos ho
  have lt := (List.getElem?_eq_some_iff.1 hx).1
  rw [List.length_append] at lt
  have en : o.n = o.rs.length + o.ss.length := rfl
  obtain ⟨a, c13, H⟩ := field_co hC q k x (by omega) (by omega) (by omega) (by
    rw [show (q + (2 + (k : Int))).toNat = q.toNat + 2 + k by omega]
    exact at_.body k x hx)
  have e := c13.symm.trans (c13_of hC)
  have e : arP a = arP s.pt.a := by simpa using e
  rw [← e]
  exact H

/-- What lies beside the core, but for where what was met lies. -/
def Ps (w0 wb w : World) (Z X : Nat → Prop) (b : Nat) (s : Co) (mb : Nat) (met : List Int) (Ao : Option Addr) (co : Nat) (out : List Int) : Prop := ∃ A c, Sh w0 wb w Z X b s mb A c met Ao co out

section
variable {w0 wb w w' : World} {Z X X' : Nat → Prop} {b mb c co : Nat} {s : Co} {A Ao : Option Addr} {met out : List Int} {H : Hp}
theorem Sh.own {T : Nat → Prop} (h : Sh w0 wb w Z X b s mb A c met Ao co out) (f : Frm T w w') (ht : ∀ k, T k → X k ∧ ¬ Z k) : Sh w0 wb w' Z X b s mb A c met Ao co out :=
  ⟨h.mw.write f (fun k _ e => .inr (.inl (ht k e).1)) fun _ hk => .inl hk, h.qu.frm f fun k hk e => (h.ap k hk).2.2 (ht k e).1, h.ap, h.kp.trans (f.mono fun k _ e hz => (ht k e).2 hz)⟩
theorem Sh.c13 (h : Sh w0 wb w Z X b s mb A c met Ao co out) : w.cell? ⟨b, 13, none⟩ = some (arP s.pt.a) := by
  obtain ⟨S, hC⟩ := h.mw.1.cr
  exact c13_of hC
theorem Sh.cmb (h : Sh w0 wb w Z X b s mb A c met Ao co out) : w.cell? ⟨mb, 0, none⟩ = some (.slice A met.length c) := h.mw.2.2.1.cell 0
theorem Sh.cmet (h : Sh w0 wb w Z X b s mb A c met Ao co out) {g off i : Nat} {q : Int} (e : A = some ⟨g, off, none⟩) (hq : met[i]? = some q) : w.cell? ⟨g, off + i, none⟩ = some (.int .i64 q) := by
  obtain ⟨g', o', e', _, hc, _⟩ := h.mw.2.1.at_ (by have := (List.getElem?_eq_some_iff.1 hq).1; omega)
  rw [e] at e'
  cases e'
  exact hc i q hq
theorem Sh.at_ (h : Sh w0 wb w Z X b s mb A c met Ao co out) (hn : 0 < met.length) : ∃ g off, A = some ⟨g, off, none⟩ := by
  obtain ⟨g, o, e, _⟩ := h.mw.2.1.at_ hn
  exact ⟨g, o, e⟩

theorem Ps.meet (h : Ps w0 wb w Z X b s mb met Ao co out) (cy : Cyc s H) {y : Int} (hy : H.ok y) (few : met.length ≤ 1048575) :
    Calls Tryz.prog 96 #[ptr b, .pointer (some ⟨mb, 0, none⟩), .int .i64 y] w fun e w' => ∃ r, e = .returned (.int .i64 r) ∧ r = (Gc.meet H.now met y).2 ∧ Ps w0 wb w' Z X b s mb (Gc.meet H.now met y).1 Ao co out ∧ Kp X w w' := by
  obtain ⟨A, c, h⟩ := h
  exact (h.meet cy hy few).mono fun _ _ ⟨he, h1, h2⟩ => ⟨_, he, rfl, h1, h2⟩
theorem Ps.app {w1 w2 : World} {Ao' : Option Addr} {co' n : Nat} {ys : List Int} (h : Ps w0 wb w Z X b s mb met Ao co out) (f : Below w.heap.size w w1) (q : Qu w2 Ao' n co' (out ++ ys)) (g : Grw Ao Ao' w1 w2) :
    Ps w0 wb w2 Z X b s mb met Ao' co' (out ++ ys) ∧ Kp X w w2 := by
  obtain ⟨A, c, h⟩ := h
  obtain ⟨h1, h2⟩ := h.app f q g
  exact ⟨⟨A, c, h1⟩, h2⟩
theorem Ps.turn (h : Ps w0 wb w Z X b s mb met Ao co out) (f : Below w.heap.size w w') (hx : ∀ k, X' k → X k ∨ (w.heap.size ≤ k ∧ k < w'.heap.size)) : Ps w0 wb w' Z X' b s mb met Ao co out := by
  obtain ⟨A, c, h⟩ := h
  exact ⟨A, c, h.turn f hx⟩
theorem Ps.qu (h : Ps w0 wb w Z X b s mb met Ao co out) : Qu w Ao out.length co out := by
  obtain ⟨A, c, h⟩ := h
  exact h.qu
theorem Ps.cmb (h : Ps w0 wb w Z X b s mb met Ao co out) : ∃ A c, w.cell? ⟨mb, 0, none⟩ = some (.slice A met.length c) := by
  obtain ⟨A, c, h⟩ := h
  exact ⟨A, c, h.cmb⟩

abbrev hd7 (z u g y : Int) (f1 f2 f3 : Bool) : Array Value := #[.int .i64 z, .int .i64 u, .int .i64 g, .int .i64 y, .bool f1, .bool f2, .bool f3]
theorem Blk.set7 {w1 : World} {k : Nat} {t : TypeId} {u0 u1 u2 u3 u4 u5 u6 : Value} (h : Blk w1 k #[u0, u1, u2, u3, u4, u5, u6] t) (v0 v1 v2 v3 v4 v5 v6 : Value) :
    Blk (((((((w1.setCell ⟨k, 0, none⟩ v0).setCell ⟨k, 1, none⟩ v1).setCell ⟨k, 2, none⟩ v2).setCell ⟨k, 3, none⟩ v3).setCell ⟨k, 4, none⟩ v4).setCell ⟨k, 5, none⟩ v5).setCell ⟨k, 6, none⟩ v6) k #[v0, v1, v2, v3, v4, v5, v6] t := by
  have e := ((((((h.set_ 0 v0).set_ 1 v1).set_ 2 v2).set_ 3 v3).set_ 4 v4).set_ 5 v5).set_ 6 v6
  simpa only [List.setIfInBounds_toArray, List.set_cons_zero, List.set_cons_succ] using e
theorem Frm.set7 {T : Nat → Prop} {w w1 : World} (f : Frm T w w1) (k : Nat) (hk : T k) (v0 v1 v2 v3 v4 v5 v6 : Value) :
    Frm T w (((((((w1.setCell ⟨k, 0, none⟩ v0).setCell ⟨k, 1, none⟩ v1).setCell ⟨k, 2, none⟩ v2).setCell ⟨k, 3, none⟩ v3).setCell ⟨k, 4, none⟩ v4).setCell ⟨k, 5, none⟩ v5).setCell ⟨k, 6, none⟩ v6) :=
  ((((((f.setCell (p := ⟨k, 0, none⟩) (fun _ => hk) _).setCell (p := ⟨k, 1, none⟩) (fun _ => hk) _).setCell (p := ⟨k, 2, none⟩) (fun _ => hk) _).setCell (p := ⟨k, 3, none⟩) (fun _ => hk) _).setCell (p := ⟨k, 4, none⟩) (fun _ => hk) _).setCell (p := ⟨k, 5, none⟩) (fun _ => hk) _).setCell (p := ⟨k, 6, none⟩) (fun _ => hk) _

/-- A head is read, and put into a box that is made in the region. -/
def HdG (w0 wb : World) (Z : Nat → Prop) (b : Nat) (s : Co) (mb : Nat) (A : Option Addr) (c : Nat) (met : List Int) (Ao : Option Addr) (co : Nat) (out : List Int) (hv : Array Value) (m : Made) (w' : World) : Prop := match m 12 with
  | none => Sh w0 wb w' Z noZ b s mb A c met Ao co out ∧ m 13 = none
  | some v => ∃ k : Nat, v = .pointer (some ⟨k, 0, none⟩) ∧ ¬ Z k ∧ Sh w0 wb w' Z (fun j => j = k) b s mb A c met Ao co out ∧ Blk w' k (match m 13 with | none => hd7 0 0 0 0 false false false | some _ => hv) 93

variable {hv : Array Value} {m : Made}
theorem HdG.pure (h : HdG w0 wb Z b s mb A c met Ao co out hv m w') (i : Nat) (v : Value) (hi : i ≠ 12) (hj : i ≠ 13) : HdG w0 wb Z b s mb A c met Ao co out hv (m.upd i v) w' := by
  unfold HdG at h ⊢
  rwa [show m.upd i v 12 = m 12 from if_neg (Ne.symm hi), show m.upd i v 13 = m 13 from if_neg (Ne.symm hj)]
theorem HdG.sh (h : HdG w0 wb Z b s mb A c met Ao co out hv m w') : ∃ X, Sh w0 wb w' Z X b s mb A c met Ao co out := by
  unfold HdG at h
  cases e : m 12 with
  | none => rw [e] at h; exact ⟨_, h.1⟩
  | some v =>
    rw [e] at h
    obtain ⟨k, _, _, h1, _⟩ := h
    exact ⟨_, h1⟩
theorem HdG.look {P : Program} {fn : FuncId} {args : Array Value} {R : Ending → Prop} (h : HdG w0 wb Z b s mb A c met Ao co out hv m w') (q : ∀ S, Cr w' b S s → Calls P fn args w' fun e w2 => R e ∧ CoR w' b S s w2) :
    Calls P fn args w' fun e w2 => R e ∧ HdG w0 wb Z b s mb A c met Ao co out hv m w2 := by
  unfold HdG at h ⊢
  cases e : m 12 with
  | none =>
    rw [e] at h
    exact (h.1.look q).mono fun _ _ ⟨r, h1, _⟩ => ⟨r, h1, h.2⟩
  | some v =>
    rw [e] at h
    obtain ⟨k, e1, e2, h1, h2⟩ := h
    exact (h1.look q).mono fun _ _ ⟨r, h3, kp⟩ => ⟨r, k, e1, e2, h3, h2.kp kp rfl⟩
theorem HdG.made (h : HdG w0 wb Z b s mb A c met Ao co out hv m w') (h6 : m 12 = none) : HdG w0 wb Z b s mb A c met Ao co out hv (m.upd 12 (.pointer (some ⟨w'.heap.size, 0, none⟩))) (w'.alloc (.cells (hd7 0 0 0 0 false false false) 93)) := by
  unfold HdG at h ⊢
  rw [h6] at h
  rw [show m.upd 12 (.pointer (some ⟨w'.heap.size, 0, none⟩)) 12 = some (.pointer (some ⟨w'.heap.size, 0, none⟩)) from if_pos rfl, show m.upd 12 (.pointer (some ⟨w'.heap.size, 0, none⟩)) 13 = none from (if_neg (by decide)).trans h.2]
  refine ⟨w'.heap.size, rfl, fun e => ?_, h.1.turn ((Below.refl _ w').alloc (Nat.le_refl _) _) fun k hk => .inr ⟨by omega, by subst hk; simp⟩, Blk.new w' _ _⟩
  have := (h.1.mw.1.low _ (.inl (.inl e))).2
  omega
theorem HdG.six {k : Nat} (h : HdG w0 wb Z b s mb A c met Ao co out hv m w') (h6 : m 12 = some (.pointer (some ⟨k, 0, none⟩))) (h7 : m 13 = none) : ¬ Z k ∧ Sh w0 wb w' Z (fun j => j = k) b s mb A c met Ao co out ∧ Blk w' k (hd7 0 0 0 0 false false false) 93 := by
  unfold HdG at h
  rw [h6, h7] at h
  obtain ⟨k', e, h0, h1, h2⟩ := h
  cases e
  exact ⟨h0, h1, h2⟩
theorem HdG.done {k : Nat} {u : Value} (h : HdG w0 wb Z b s mb A c met Ao co out hv m w') (h6 : m 12 = some (.pointer (some ⟨k, 0, none⟩))) (h7 : m 13 = some u) : Sh w0 wb w' Z (fun j => j = k) b s mb A c met Ao co out ∧ Blk w' k hv 93 := by
  unfold HdG at h
  rw [h6, h7] at h
  obtain ⟨k', e, h0, h1, h2⟩ := h
  cases e
  exact ⟨h1, h2⟩
theorem HdG.stored {k : Nat} {u : Value} {v0 v1 v2 v3 v4 v5 v6 : Value} (h : HdG w0 wb Z b s mb A c met Ao co out #[v0, v1, v2, v3, v4, v5, v6] m w') (h6 : m 12 = some (.pointer (some ⟨k, 0, none⟩))) (h7 : m 13 = none) :
    HdG w0 wb Z b s mb A c met Ao co out #[v0, v1, v2, v3, v4, v5, v6] (m.upd 13 u) (((((((w'.setCell ⟨k, 0, none⟩ v0).setCell ⟨k, 1, none⟩ v1).setCell ⟨k, 2, none⟩ v2).setCell ⟨k, 3, none⟩ v3).setCell ⟨k, 4, none⟩ v4).setCell ⟨k, 5, none⟩ v5).setCell ⟨k, 6, none⟩ v6) := by
  obtain ⟨h0, h1, h2⟩ := h.six h6 h7
  unfold HdG
  rw [show m.upd 13 u 12 = some (.pointer (some ⟨k, 0, none⟩)) from (if_neg (by decide)).trans h6, show m.upd 13 u 13 = some u from if_pos rfl]
  exact ⟨k, rfl, h0, h1.own (Frm.set7 (Frm.refl (fun j => j = k) w') k rfl _ _ _ _ _ _ _) fun j e => ⟨e, e ▸ h0⟩, Blk.set7 h2 _ _ _ _ _ _ _⟩
end

def HdW (b a gq off n c iq : Nat) (p z u g y : Int) (f1 f2 f3 : Bool) : Nat → Value → Prop
  | 0 => fun v => v = ptr b
  | 1 => fun v => v = ptr b
  | 2 => fun v => v = .pointer (some ⟨b, 13, none⟩)
  | 3 => fun v => v = arP a
  | 4 => fun v => v = .slice (some ⟨gq, off, none⟩) n c
  | 5 => fun v => v = .int .i64 iq
  | 6 => fun v => v = .pointer (some ⟨gq, off + iq, none⟩)
  | 7 => fun v => v = .int .i64 p
  | 8 => fun v => v = .tuple #[hdV z u g y f1 f2 f3, .int .i64 0]
  | 9 => fun v => v = .tuple #[hdV z u g y f1 f2 f3, .int .i64 0]
  | 10 => fun v => v = hdV z u g y f1 f2 f3
  | 11 => fun v => v = .int .i64 0
  | 12 => fun v => ∃ k : Nat, v = .pointer (some ⟨k, 0, none⟩)
  | 13 => fun v => v = undef
  | _ => fun _ => True
theorem HdW_some (b a gq off n c iq : Nat) (p z u g y : Int) (f1 f2 f3 : Bool) : ∀ i, ∃ v, HdW b a gq off n c iq p z u g y f1 f2 f3 i v
  | 0 => ⟨_, rfl⟩
  | 1 => ⟨_, rfl⟩
  | 2 => ⟨_, rfl⟩
  | 3 => ⟨_, rfl⟩
  | 4 => ⟨_, rfl⟩
  | 5 => ⟨_, rfl⟩
  | 6 => ⟨_, rfl⟩
  | 7 => ⟨_, rfl⟩
  | 8 => ⟨_, rfl⟩
  | 9 => ⟨_, rfl⟩
  | 10 => ⟨_, rfl⟩
  | 11 => ⟨_, rfl⟩
  | 12 => ⟨_, 0, rfl⟩
  | 13 => ⟨_, rfl⟩
  | _ + 14 => ⟨undef, trivial⟩
def FdW (b a gq off n c iq : Nat) (p k x : Int) : Nat → Value → Prop
  | 0 => fun v => v = ptr b
  | 1 => fun v => v = ptr b
  | 2 => fun v => v = .pointer (some ⟨b, 13, none⟩)
  | 3 => fun v => v = arP a
  | 4 => fun v => v = .slice (some ⟨gq, off, none⟩) n c
  | 5 => fun v => v = .int .i64 iq
  | 6 => fun v => v = .pointer (some ⟨gq, off + iq, none⟩)
  | 7 => fun v => v = .int .i64 p
  | 8 => fun v => v = .int .i64 k
  | 9 => fun v => v = .tuple #[.int .u64 x, .int .i64 0]
  | 10 => fun v => v = .tuple #[.int .u64 x, .int .i64 0]
  | 11 => fun v => v = .int .u64 x
  | 12 => fun v => v = .int .i64 0
  | 13 => fun v => v = .int .u64 x
  | _ => fun _ => True
theorem FdW_some (b a gq off n c iq : Nat) (p k x : Int) : ∀ i, ∃ v, FdW b a gq off n c iq p k x i v
  | 0 => ⟨_, rfl⟩
  | 1 => ⟨_, rfl⟩
  | 2 => ⟨_, rfl⟩
  | 3 => ⟨_, rfl⟩
  | 4 => ⟨_, rfl⟩
  | 5 => ⟨_, rfl⟩
  | 6 => ⟨_, rfl⟩
  | 7 => ⟨_, rfl⟩
  | 8 => ⟨_, rfl⟩
  | 9 => ⟨_, rfl⟩
  | 10 => ⟨_, rfl⟩
  | 11 => ⟨_, rfl⟩
  | 12 => ⟨_, rfl⟩
  | 13 => ⟨_, rfl⟩
  | _ + 14 => ⟨undef, trivial⟩

attribute [local go_sem] madeUpon

/-- What is shown of a heap. -/
def shR (s : Co) (H : Hp) : List Int := shown H.now cvI H.dat 938 s.hs

set_option maxHeartbeats 8000000 in
set_option maxRecDepth 100000 in
theorem shown14_any {w0 w : World} {Z : Nat → Prop} {b : Nat} {s : Co} {H : Hp} (k : Km w0 w Z b s) (cy : Cyc s H) (hM : 2 * s.cf.nu + s.cf.ps * s.cf.pz + 1 ≤ 938) :
    Calls Tryz.prog 48 #[ptr b] w fun e w' => ∃ A c n, e = .returned (.slice A n c) ∧ Qu w' A n c (shR s H) ∧ n ≤ 1048576 ∧ Km w0 w' (fun k => Z k ∨ blkOf A = some k) b s ∧ Kp Z w w' ∧ ∀ k, blkOf A = some k → w.heap.size ≤ k := by
  have S0 := sh_start k
  obtain ⟨S, hC⟩ := S0.mw.1.cr
  have hN := hC.few
  obtain ⟨c18, HA⟩ := tall_co hC
  have HA := Lib.hid HA
  have S0 := Lib.hid S0
  have CY := Lib.hid cy
  have HM := Lib.hid hM
  have HS := Lib.hid cy.sim.hs
  obtain ⟨R, hR⟩ : ∃ R, shR s H = R := ⟨_, rfl⟩
  rw [hR]
  have HR := Lib.hid hR
  obtain ⟨N, hN2⟩ : ∃ N, s.hs.length = N := ⟨_, rfl⟩
  rw [hN2] at hN HA
  have HL := Lib.hid hN2
  clear k cy hM hC S hR hN2
  go_enter Tryz.func48, Tryz.ntmps48
  go_wp2_with fail
  refine HA.out.mono ?_
  rintro e w4 ⟨Aa, ca, rfl, qa, ba, na⟩
  have P4 : Hid (Ps w0 w w4 Z (fun k => blkOf Aa = some k) b s (w.heap.size + 2) [] (some ⟨w.heap.size, 0, none⟩) 0 []) := Lib.hid ⟨_, _, S0.out.turn ba fun k hk => .inr ⟨na k hk, qa.lt hk⟩⟩
  have QA := Lib.hid qa
  clear qa ba na S0 HA c18
  generalize w.heap.size + 2 = mb at *
  go_wp2_with fail
  go_loopw [3, 6] (fun s3 s6 wr => ∃ (i co : Nat) (met out : List Int) (Ao : Option Addr), i ≤ N ∧ s6 = .int .i64 i ∧ s3 = .slice Ao out.length co ∧ Hid (Ps w0 w wr Z (fun k => blkOf Aa = some k) b s mb met Ao co out) ∧ Hid (meets H.now [] (s.hs.take i) = (met, out) ∧ Met H met) ∧ Hid (Qu wr Aa N ca s.hs)) (fun _ s6 _ => N - (intOf s6).toNat)
  case atStart => exact ⟨0, 0, [], [], _, Nat.zero_le _, rfl, rfl, P4, Lib.hid ⟨rfl, List.nodup_nil, fun _ h => (by cases h)⟩, QA⟩
  case round =>
    clear P4 QA
    obtain ⟨i, co, met, out, Ao, hi, rfl, rfl, PI, EI, QA⟩ := hrel
    by_cases hlt : i < N
    · have hy : s.hs[i]? = some (s.hs[i]'(by have := HL.out; omega)) := List.getElem?_eq_getElem _
      generalize s.hs[i]'(by have := HL.out; omega) = y at hy
      obtain ⟨g1, o1, rfl, _, d1, _⟩ := QA.out.at_ (by omega)
      have x1 := d1 i y hy
      have j0 : (0 : Int) ≤ (i : Int) := by omega
      have j1 : (i : Int) < (N : Int) := by omega
      have ok := Lib.hid (show H.ok y from CY.out.inv.hs y (by rw [HS.out]; exact List.mem_of_getElem? hy))
      have HE := Lib.hid (PI.out.meet CY.out ok.out (by have := EI.out.2.le CY.out; have := HM.out; omega))
      have lo : out.length ≤ 64 := by
        have := congrArg (fun z => z.2.length) EI.out.1
        have : (meets H.now [] (s.hs.take i)).2.length = out.length := this
        rw [meets_len, List.length_take] at this
        omega
      have EN := Lib.hid (show meets H.now [] (s.hs.take (i + 1)) = ((meet H.now met y).1, out ++ [(meet H.now met y).2]) ∧ Met H (meet H.now met y).1 from by
        have e : s.hs.take (i + 1) = s.hs.take i ++ [y] := by rw [List.take_add_one, hy]; rfl
        refine ⟨?_, meet_met CY.out.inv EI.out.2 ok.out⟩
        rw [e, meets_snoc, EI.out.1])
      clear d1 hy ok PI EI
      go_wp2_with fail
      refine HE.out.mono ?_
      rintro e w5 ⟨r, rfl, hr, p5, kp5⟩
      rw [← hr] at EN
      have f1 := (Below.refl _ w5).alloc (Nat.le_refl _) (.cells #[.int .i64 r] 3)
      have Q2 := Lib.hid (p5.qu.keep f1)
      have E2 := Lib.hid (show (w5.alloc (.cells #[.int .i64 r] 3)).cell? ⟨w5.heap.size, 0, none⟩ = some (.int .i64 r) from (Blk.new w5 #[.int .i64 r] 3).cell 0)
      have P5 := Lib.hid p5
      have F1 := Lib.hid f1
      have QA := Lib.hid (QA.out.kp kp5 fun _ e => e)
      generalize (meet H.now met y).1 = met2 at *
      clear p5 kp5 f1 HE x1 hr
      go_wp2_with (first
        | (at_builtin; (refine wpList_append_qu _ rfl _ _ rfl Q2.out (by omega) r ⟨w5.heap.size, 0, none⟩ 1 rfl rfl E2.out ?_))
        | fail)
      intro A' c' w6 q6 g6
      obtain ⟨p6, k6⟩ := P5.out.app F1.out q6 g6
      have P6 := Lib.hid p6
      have QA := Lib.hid (QA.out.kp k6 fun _ e => e)
      clear p6 k6 q6 g6 Q2 E2 P5 F1
      go_wp2
      go_roundw
      case rel => exact ⟨i + 1, c', met2, out ++ [r], A', by omega, by go_num, by simp, P6, EN, QA⟩
      case measure => simp [intOf]; omega
    · obtain rfl : i = N := by omega
      have E0 := Lib.hid (show told H.now cvI H.dat (938 - 0) 0 met out = R ∧ Met H met ∧ out.length ≤ 64 + 66 * 0 from by
        have e := EI.out.1
        rw [List.take_of_length_le (by have := HL.out; omega)] at e
        have l := congrArg (fun z => z.2.length) e
        have l : (meets H.now [] s.hs).2.length = out.length := l
        rw [meets_len, HL.out] at l
        refine ⟨?_, EI.out.2, by omega⟩
        have r := HR.out
        unfold shR shown at r
        rw [e] at r
        exact r)
      have P0 : Hid (Ps w0 w wr Z noZ b s mb met Ao co out) := Lib.hid (PI.out.turn (Below.refl _ _) fun _ e => e.elim)
      clear PI EI QA
      generalize wr = wq at *
      go_wp2_with fail
      go_loopw [3, 7] (fun s3 s7 wr => ∃ (i co : Nat) (met out : List Int) (Ao : Option Addr), i ≤ 938 ∧ s7 = .int .i64 i ∧ s3 = .slice Ao out.length co ∧ Hid (Ps w0 w wr Z noZ b s mb met Ao co out) ∧ Hid (told H.now cvI H.dat (938 - i) i met out = R ∧ Met H met ∧ out.length ≤ 64 + 66 * i)) (fun _ s7 _ => 938 - (intOf s7).toNat)
      case atStart => exact ⟨0, co, met, out, Ao, by omega, rfl, rfl, P0, E0⟩
      case round =>
        clear P0 E0
        obtain ⟨i, co, met, out, Ao, hi, rfl, rfl, PI, EI⟩ := hrel
        have n938 : met.length ≤ 938 := by have := EI.out.2.1.le CY.out; have := HM.out; omega
        obtain ⟨A, c, hsh⟩ := PI.out
        have mc := hsh.cmb
        have SH := Lib.hid hsh
        clear PI hsh
        by_cases hlt : i < met.length
        · have h1 : (i : Int) < (met.length : Int) := by omega
          have h0 : (0 : Int) ≤ (i : Int) := by omega
          have hq : met[i]? = some (met[i]'hlt) := List.getElem?_eq_getElem _
          generalize met[i]'hlt = q at hq
          obtain ⟨gq, off, rfl⟩ := SH.out.at_ (by omega)
          have hob : ∃ o, H.ob q = some o := by
            obtain ⟨z, _⟩ := EI.out.2.1.2 q (List.mem_of_getElem? hq)
            exact (CY.out.inv.dom q).2 (by rcases z with e | e | e <;> simp [e])
          obtain ⟨o, ho⟩ := hob
          have gd := (goodB_iff ..).1 (CY.out.sim.laid.lies.at_ q o ho).good
          have en : o.n = o.rs.length + o.ss.length := rfl
          have HO := Lib.hid ho
          have HQ := Lib.hid hq
          have ED := Lib.hid (show H.dat q = (o.rs, o.ss) from by unfold Hp.dat; rw [ho])
          have HD := Lib.hid (fun w' S (hC : Cr w' b S s) => head13 hC CY.out ho)
          obtain ⟨K, hK⟩ : ∃ K, o.n = K := ⟨_, rfl⟩
          obtain ⟨U, hU⟩ : ∃ U, o.rs.length = U := ⟨_, rfl⟩
          have HK := Lib.hid (show K = U + o.ss.length ∧ K ≤ 64 from ⟨by omega, by omega⟩)
          have HU := Lib.hid hU
          rw [hK, hU] at HD
          have lo := EI.out.2.2
          have hK64 := HK.out.2
          clear ho hq gd en hK hU
          generalize decide (q ∈ H.O) = f3 at *
          generalize o.age = ag at *
          generalize o.par = pr at *
          generalize o.grey = f1 at *
          generalize o.noted = f2 at *
          go_wp2_with fail
          clear mc
          refine region_made_tailG (HdG w0 w Z b s mb (some ⟨gq, off, none⟩) c met Ao co out (hd7 K U ag pr f1 f2 f3)) (HdW b s.pt.a gq off met.length c i q K U ag pr f1 f2 f3) 14 (by kernel_rfl) (by kernel_rfl) (HdW_some _ _ _ _ _ _ _ _ _ _ _ _ _ _ _) ⟨SH.out.keep (below_drew _), rfl⟩ ?_
          simp only [List.take_succ_cons, List.take_zero, List.drop_succ_cons, List.drop_zero]
          refine wpMadeG_step ?_ ?_
          · refine .inl ⟨by rfl, ?_⟩
            intro m' w' hg hag
            go_simp
            exact ⟨rfl, hg.pure _ _ (by decide) (by decide)⟩
          intro K hK
          rintro _ rfl
          go_simp
          refine hK _ _ ?_
          clear hK K
          refine wpMadeG_step ?_ ?_
          · refine .inl ⟨by rfl, ?_⟩
            intro m' w' hg hag
            go_simp
            exact ⟨rfl, hg.pure _ _ (by decide) (by decide)⟩
          intro K hK
          rintro _ rfl
          go_simp
          refine hK _ _ ?_
          clear hK K
          refine wpMadeG_step ?_ ?_
          · refine .inl ⟨by rfl, ?_⟩
            intro m' w' hg hag
            go_simp
            exact ⟨rfl, hg.pure _ _ (by decide) (by decide)⟩
          intro K hK
          rintro _ rfl
          go_simp
          refine hK _ _ ?_
          clear hK K
          refine wpMadeG_step ?_ ?_
          · refine .inl ⟨by rfl, ?_⟩
            intro m' w' hg hag
            have q1 := (Exists.choose_spec hg.sh).c13
            go_simp
            exact ⟨rfl, hg.pure _ _ (by decide) (by decide)⟩
          intro K hK
          rintro _ rfl
          go_simp
          refine hK _ _ ?_
          clear hK K
          refine wpMadeG_step ?_ ?_
          · refine .inl ⟨by rfl, ?_⟩
            intro m' w' hg hag
            have q1 := (Exists.choose_spec hg.sh).cmb
            go_simp
            exact ⟨rfl, hg.pure _ _ (by decide) (by decide)⟩
          intro K hK
          rintro _ rfl
          go_simp
          refine hK _ _ ?_
          clear hK K
          refine wpMadeG_step ?_ ?_
          · refine .inl ⟨by rfl, ?_⟩
            intro m' w' hg hag
            go_simp
            exact ⟨rfl, hg.pure _ _ (by decide) (by decide)⟩
          intro K hK
          rintro _ rfl
          go_simp
          refine hK _ _ ?_
          clear hK K
          refine wpMadeG_step ?_ ?_
          · refine .inl ⟨by rfl, ?_⟩
            intro m' w' hg hag
            go_simp
            exact ⟨rfl, hg.pure _ _ (by decide) (by decide)⟩
          intro K hK
          rintro _ rfl
          go_simp
          refine hK _ _ ?_
          clear hK K
          refine wpMadeG_step ?_ ?_
          · refine .inl ⟨by rfl, ?_⟩
            intro m' w' hg hag
            have q1 := (Exists.choose_spec hg.sh).cmet rfl HQ.out
            go_simp
            exact ⟨rfl, hg.pure _ _ (by decide) (by decide)⟩
          intro K hK
          rintro _ rfl
          go_simp
          refine hK _ _ ?_
          clear hK K
          refine wpMadeG_step ?_ ?_
          · refine .inl ⟨by rfl, ?_⟩
            intro m' w' hg hag
            go_simp
            exact (hg.look fun S hC => HD.out _ S hC).mono fun e w3 ⟨he, h3⟩ => ⟨_, he, rfl, h3.pure _ _ (by decide) (by decide)⟩
          intro K hK
          rintro _ rfl
          go_simp
          refine hK _ _ ?_
          clear hK K
          refine wpMadeG_step ?_ ?_
          · refine .inl ⟨by rfl, ?_⟩
            intro m' w' hg hag
            go_simp
            exact ⟨rfl, hg.pure _ _ (by decide) (by decide)⟩
          intro K hK
          rintro _ rfl
          go_simp
          refine hK _ _ ?_
          clear hK K
          refine wpMadeG_step ?_ ?_
          · refine .inl ⟨by rfl, ?_⟩
            intro m' w' hg hag
            go_simp
            exact ⟨rfl, hg.pure _ _ (by decide) (by decide)⟩
          intro K hK
          rintro _ rfl
          go_simp
          refine hK _ _ ?_
          clear hK K
          refine wpMadeG_step ?_ ?_
          · refine .inl ⟨by rfl, ?_⟩
            intro m' w' hg hag
            go_simp
            exact ⟨rfl, hg.pure _ _ (by decide) (by decide)⟩
          intro K hK
          rintro _ rfl
          go_simp
          refine hK _ _ ?_
          clear hK K
          refine wpMadeG_step ?_ ?_
          · refine .inl ⟨by rfl, ?_⟩
            intro m' w' hg hag
            have h6 := hag 12 (.inl rfl)
            go_simp
            exact ⟨⟨_, rfl⟩, hg.made h6⟩
          intro K hK
          rintro _ ⟨kb, rfl⟩
          go_simp
          refine hK _ _ ?_
          clear hK K
          refine wpMadeG_step ?_ ?_
          · refine .inl ⟨by rfl, ?_⟩
            intro m' w' hg hag
            have h6 := hag 12 (.inr ⟨⟨12, .data⟩, by simp, by rfl, rfl⟩)
            have h7 := hag 13 (.inl rfl)
            obtain ⟨_, kg, bg⟩ := hg.six h6 h7
            obtain ⟨q0, q1, q2, q3, q4, q5, q6, qf⟩ := bg.seven
            have lt := bg.lt
            go_simp
            exact ⟨rfl, hg.stored h6 h7⟩
          intro K hK
          rintro _ rfl
          go_simp
          refine hK _ _ ?_
          clear hK K
          refine wpMadeG_nil ?_
          intro w5 hg
          obtain ⟨sg, bg⟩ := hg.done rfl rfl
          obtain ⟨d0, d1, _, _, _, _, _, _⟩ := bg.seven
          have BG := Lib.hid bg
          have f1' := (Below.refl _ w5).alloc (Nat.le_refl _) (.cells #[.int .i64 K, .int .i64 U] 3)
          have Q2 := Lib.hid (sg.qu.keep f1')
          have E1 := Lib.hid (show (w5.alloc (.cells #[.int .i64 K, .int .i64 U] 3)).cell? ⟨w5.heap.size, 0, none⟩ = some (.int .i64 K) from (Blk.new w5 #[.int .i64 K, .int .i64 U] 3).cell 0)
          have E2 := Lib.hid (show (w5.alloc (.cells #[.int .i64 K, .int .i64 U] 3)).cell? ((⟨w5.heap.size, 0, none⟩ : Addr).add 1) = some (.int .i64 U) from (Blk.new w5 #[.int .i64 K, .int .i64 U] 3).cell 1)
          have P5 : Hid (Ps w0 w w5 Z (fun j => j = kb) b s mb met Ao co out) := Lib.hid ⟨_, _, sg⟩
          have F1 := Lib.hid f1'
          clear hg sg bg f1' SH HD
          go_wp2_with (first
            | (at_builtin; (refine wpList_append_qu2 _ rfl _ _ rfl Q2.out (by omega) K U ⟨w5.heap.size, 0, none⟩ 2 rfl rfl E1.out E2.out ?_))
            | fail)
          intro A' c' w6 q6 g6
          obtain ⟨p6, k6⟩ := P5.out.app F1.out q6 g6
          have P6 := Lib.hid p6
          have BG := Lib.hid (BG.out.kp k6 rfl)
          have E6 := Lib.hid (show (met, out ++ [(K : Int), (U : Int)]) = ((tl H.now cvI met o.rs o.ss 0).1, out ++ (tl H.now cvI met o.rs o.ss 0).2) ∧ Met H met ∧ met[i]? = some q ∧ (out ++ [(K : Int), (U : Int)]).length = out.length + 2 + 0 from ⟨by rw [tl_zero, HU.out, HK.out.1], EI.out.2.1, HQ.out, by simp⟩)
          clear p6 k6 q6 g6 Q2 E1 E2 P5 F1 d0 d1
          go_wp2_with fail
          go_loopw [3, 10] (fun s3 s10 wr => ∃ (k co : Nat) (met2 out2 : List Int) (Ao : Option Addr), k ≤ K ∧ s10 = .int .i64 k ∧ s3 = .slice Ao out2.length co ∧ Hid (Ps w0 w wr Z (fun j => j = kb) b s mb met2 Ao co out2) ∧ Hid ((met2, out2) = ((tl H.now cvI met o.rs o.ss k).1, out ++ (tl H.now cvI met o.rs o.ss k).2) ∧ Met H met2 ∧ met2[i]? = some q ∧ out2.length = out.length + 2 + k) ∧ Hid (Blk wr kb (hd7 K U ag pr f1 f2 f3) 93)) (fun _ s10 _ => K - (intOf s10).toNat)
          case atStart => exact ⟨0, c', met, out ++ [(K : Int), (U : Int)], A', Nat.zero_le _, rfl, by simp, P6, E6, BG⟩
          case round =>
            clear P6 E6 BG
            obtain ⟨k, co, met2, out2, Ao, hk, rfl, rfl, PK, EK, BG⟩ := hrel
            obtain ⟨d0, d1, _, _, _, _, _, _⟩ := BG.out.seven
            by_cases hkl : k < K
            · have k1 : (k : Int) < (K : Int) := by omega
              have hx : ∃ x, (o.rs ++ o.ss)[k]? = some x := ⟨_, List.getElem?_eq_getElem (by rw [List.length_append]; have := HK.out; have := HU.out; omega)⟩
              obtain ⟨x, hx⟩ := hx
              have HX := Lib.hid hx
              obtain ⟨A2, c2, sh2⟩ := PK.out
              have l2 := (List.getElem?_eq_some_iff.1 EK.out.2.2.1).1
              obtain ⟨gq2, off2, rfl⟩ := sh2.at_ (by omega)
              have h2 : (i : Int) < (met2.length : Int) := by omega
              have GG := Lib.hid (And.intro sh2 BG.out)
              have m938 : met2.length ≤ 938 := by have := EK.out.2.1.le CY.out; have := HM.out; omega
              have lo2 : out2.length ≤ out.length + 2 + k := by have := EK.out.2.2.2; omega
              clear PK hx sh2 l2
              go_wp2_with fail
              clear d0 d1
              refine region_made_tailG (fun _ w' => Sh w0 w w' Z (fun j => j = kb) b s mb (some ⟨gq2, off2, none⟩) c2 met2 Ao co out2 ∧ Blk w' kb (hd7 K U ag pr f1 f2 f3) 93) (FdW b s.pt.a gq2 off2 met2.length c2 i q k x) 14 (by kernel_rfl) (by kernel_rfl) (FdW_some _ _ _ _ _ _ _ _ _ _) ⟨GG.out.1.keep (below_drew _), GG.out.2.keep (below_drew _)⟩ ?_
              simp only [List.take_succ_cons, List.take_zero, List.drop_succ_cons, List.drop_zero]
              refine wpMadeG_step ?_ ?_
              · refine .inl ⟨by rfl, ?_⟩
                intro m' w' hg hag
                go_simp
                first | exact rfl | exact ⟨rfl, hg⟩
              intro K hK
              rintro _ rfl
              go_simp
              refine hK _ _ ?_
              clear hK K
              refine wpMadeG_step ?_ ?_
              · refine .inl ⟨by rfl, ?_⟩
                intro m' w' hg hag
                go_simp
                first | exact rfl | exact ⟨rfl, hg⟩
              intro K hK
              rintro _ rfl
              go_simp
              refine hK _ _ ?_
              clear hK K
              refine wpMadeG_step ?_ ?_
              · refine .inl ⟨by rfl, ?_⟩
                intro m' w' hg hag
                go_simp
                first | exact rfl | exact ⟨rfl, hg⟩
              intro K hK
              rintro _ rfl
              go_simp
              refine hK _ _ ?_
              clear hK K
              refine wpMadeG_step ?_ ?_
              · refine .inl ⟨by rfl, ?_⟩
                intro m' w' hg hag
                have q1 := hg.1.c13
                go_simp
                first | exact rfl | exact ⟨rfl, hg⟩
              intro K hK
              rintro _ rfl
              go_simp
              refine hK _ _ ?_
              clear hK K
              refine wpMadeG_step ?_ ?_
              · refine .inl ⟨by rfl, ?_⟩
                intro m' w' hg hag
                have q1 := hg.1.cmb
                go_simp
                first | exact rfl | exact ⟨rfl, hg⟩
              intro K hK
              rintro _ rfl
              go_simp
              refine hK _ _ ?_
              clear hK K
              refine wpMadeG_step ?_ ?_
              · refine .inl ⟨by rfl, ?_⟩
                intro m' w' hg hag
                go_simp
                first | exact rfl | exact ⟨rfl, hg⟩
              intro K hK
              rintro _ rfl
              go_simp
              refine hK _ _ ?_
              clear hK K
              refine wpMadeG_step ?_ ?_
              · refine .inl ⟨by rfl, ?_⟩
                intro m' w' hg hag
                go_simp
                first | exact rfl | exact ⟨rfl, hg⟩
              intro K hK
              rintro _ rfl
              go_simp
              refine hK _ _ ?_
              clear hK K
              refine wpMadeG_step ?_ ?_
              · refine .inl ⟨by rfl, ?_⟩
                intro m' w' hg hag
                have q1 := hg.1.cmet rfl EK.out.2.2.1
                go_simp
                first | exact rfl | exact ⟨rfl, hg⟩
              intro K hK
              rintro _ rfl
              go_simp
              refine hK _ _ ?_
              clear hK K
              refine wpMadeG_step ?_ ?_
              · refine .inl ⟨by rfl, ?_⟩
                intro m' w' hg hag
                go_simp
                first | exact rfl | exact ⟨rfl, hg⟩
              intro K hK
              rintro _ rfl
              go_simp
              refine hK _ _ ?_
              clear hK K
              refine wpMadeG_step ?_ ?_
              · refine .inl ⟨by rfl, ?_⟩
                intro m' w' hg hag
                go_simp
                exact (hg.1.look fun S hC => field13 hC CY.out HO.out HX.out).mono fun e w3 ⟨he, h3, kp⟩ => ⟨_, he, rfl, h3, hg.2.kp kp rfl⟩
              intro K hK
              rintro _ rfl
              go_simp
              refine hK _ _ ?_
              clear hK K
              refine wpMadeG_step ?_ ?_
              · refine .inl ⟨by rfl, ?_⟩
                intro m' w' hg hag
                go_simp
                first | exact rfl | exact ⟨rfl, hg⟩
              intro K hK
              rintro _ rfl
              go_simp
              refine hK _ _ ?_
              clear hK K
              refine wpMadeG_step ?_ ?_
              · refine .inl ⟨by rfl, ?_⟩
                intro m' w' hg hag
                go_simp
                first | exact rfl | exact ⟨rfl, hg⟩
              intro K hK
              rintro _ rfl
              go_simp
              refine hK _ _ ?_
              clear hK K
              refine wpMadeG_step ?_ ?_
              · refine .inl ⟨by rfl, ?_⟩
                intro m' w' hg hag
                go_simp
                first | exact rfl | exact ⟨rfl, hg⟩
              intro K hK
              rintro _ rfl
              go_simp
              refine hK _ _ ?_
              clear hK K
              refine wpMadeG_step ?_ ?_
              · refine .inl ⟨by rfl, ?_⟩
                intro m' w' hg hag
                go_simp
                first | exact rfl | exact ⟨rfl, hg⟩
              intro K hK
              rintro _ rfl
              go_simp
              refine hK _ _ ?_
              clear hK K
              refine wpMadeG_nil ?_
              intro w7 hg
              obtain ⟨sg, bg⟩ := hg
              obtain ⟨d0, d1, _, _, _, _, _, _⟩ := bg.seven
              have BG := Lib.hid bg
              have P7 : Hid (Ps w0 w w7 Z (fun j => j = kb) b s mb met2 Ao co out2) := Lib.hid ⟨_, _, sg⟩
              clear sg bg GG
              by_cases hr : k < U
              · have k2 : (k : Int) < (U : Int) := by omega
                have hr2 : o.rs[k]? = some x := by have := HX.out; rwa [List.getElem?_append_left (by rw [HU.out]; exact hr)] at this
                have ok := CY.out.inv.ref q o HO.out x (List.mem_of_getElem? hr2)
                have bx : 0 ≤ x ∧ x ≤ 1048576 := by
                  obtain ⟨A3, c3, sh3⟩ := P7.out
                  obtain ⟨S3, hC3⟩ := sh3.mw.1.cr
                  exact CY.out.sim.bound CY.out.inv hC3.wl ok
                have hw : IntKind.i64.wrap x = x := IntWalk.i64_in _ (by omega)
                have HE := Lib.hid (P7.out.meet CY.out ok (by omega))
                have EN := Lib.hid (show ((meet H.now met2 x).1, out2 ++ [(meet H.now met2 x).2]) = ((tl H.now cvI met o.rs o.ss (k + 1)).1, out ++ (tl H.now cvI met o.rs o.ss (k + 1)).2) ∧ Met H (meet H.now met2 x).1 ∧ (meet H.now met2 x).1[i]? = some q ∧ (out2 ++ [(meet H.now met2 x).2]).length = out.length + 2 + (k + 1) from by
                  have e := EK.out.1
                  injection e with e1 e2
                  refine ⟨by rw [tl_ref hr2, ← e1, e2]; simp, meet_met CY.out.inv EK.out.2.1 ok, meet_at EK.out.2.2.1, by rw [List.length_append, EK.out.2.2.2]; rfl⟩)
                clear hr2 ok P7 EK HX
                go_wp2_with fail
                refine HE.out.mono ?_
                rintro e w8 ⟨r, rfl, hr, p8, kp8⟩
                rw [← hr] at EN
                have f1' := (Below.refl _ w8).alloc (Nat.le_refl _) (.cells #[.int .i64 r] 3)
                have Q2 := Lib.hid (p8.qu.keep f1')
                have E2 := Lib.hid (show (w8.alloc (.cells #[.int .i64 r] 3)).cell? ⟨w8.heap.size, 0, none⟩ = some (.int .i64 r) from (Blk.new w8 #[.int .i64 r] 3).cell 0)
                have P8 := Lib.hid p8
                have F1 := Lib.hid f1'
                have BG := Lib.hid (BG.out.kp kp8 rfl)
                generalize (meet H.now met2 x).1 = met3 at *
                clear p8 kp8 f1' HE hr d0 d1
                go_wp2_with (first
                  | (at_builtin; (refine wpList_append_qu _ rfl _ _ rfl Q2.out (by omega) r ⟨w8.heap.size, 0, none⟩ 1 rfl rfl E2.out ?_))
                  | fail)
                intro A' c' w9 q9 g9
                obtain ⟨p9, k9⟩ := P8.out.app F1.out q9 g9
                have P9 := Lib.hid p9
                have BG := Lib.hid (BG.out.kp k9 rfl)
                clear p9 k9 q9 g9 Q2 E2 P8 F1
                go_wp2
                go_roundw
                case rel => exact ⟨k + 1, c', met3, out2 ++ [r], A', by omega, by go_num, by simp, P9, EN, BG⟩
                case measure => simp [intOf]; omega
              · have k2 : ¬ (k : Int) < (U : Int) := by omega
                have hs2 : o.ss[k - o.rs.length]? = some x := by have := HX.out; rwa [List.getElem?_append_right (by rw [HU.out]; omega)] at this
                obtain ⟨r, hr⟩ : ∃ r, IntKind.i64.wrap x = r := ⟨_, rfl⟩
                have EN := Lib.hid (show (met2, out2 ++ [r]) = ((tl H.now cvI met o.rs o.ss (k + 1)).1, out ++ (tl H.now cvI met o.rs o.ss (k + 1)).2) ∧ Met H met2 ∧ met2[i]? = some q ∧ (out2 ++ [r]).length = out.length + 2 + (k + 1) from by
                  have e := EK.out.1
                  injection e with e1 e2
                  refine ⟨by rw [tl_sca (by rw [HU.out]; omega) hs2, ← e1, e2, ← hr]; simp, EK.out.2.1, EK.out.2.2.1, by rw [List.length_append, EK.out.2.2.2]; rfl⟩)
                have f1' := (Below.refl _ w7).alloc (Nat.le_refl _) (.cells #[.int .i64 r] 3)
                have Q2 := Lib.hid (P7.out.qu.keep f1')
                have E2 := Lib.hid (show (w7.alloc (.cells #[.int .i64 r] 3)).cell? ⟨w7.heap.size, 0, none⟩ = some (.int .i64 r) from (Blk.new w7 #[.int .i64 r] 3).cell 0)
                have F1 := Lib.hid f1'
                clear hs2 f1' EK HX
                go_wp2_with (first
                  | (at_builtin; (refine wpList_append_qu _ rfl _ _ rfl Q2.out (by omega) r ⟨w7.heap.size, 0, none⟩ 1 rfl rfl E2.out ?_))
                  | fail)
                intro A' c' w9 q9 g9
                obtain ⟨p9, k9⟩ := P7.out.app F1.out q9 g9
                have P9 := Lib.hid p9
                have BG := Lib.hid (BG.out.kp k9 rfl)
                clear p9 k9 q9 g9 Q2 E2 P7 F1 d0 d1
                go_wp2
                go_roundw
                case rel => exact ⟨k + 1, c', met2, out2 ++ [r], A', by omega, by go_num, by simp, P9, EN, BG⟩
                case measure => simp [intOf]; omega
            · obtain rfl : k = K := by omega
              have EN := Lib.hid (show told H.now cvI H.dat (938 - (i + 1)) (i + 1) met2 out2 = R ∧ Met H met2 ∧ out2.length ≤ 64 + 66 * (i + 1) from by
                have e := EK.out.1
                have ek := HK.out.1
                rw [ek, ← HU.out, tl_end] at e
                injection e with e1 e2
                refine ⟨?_, EK.out.2.1, by have := EK.out.2.2.2; omega⟩
                have t := EI.out.1
                rw [show 938 - i = (938 - (i + 1)) + 1 by omega, told_step HQ.out, ED.out, ← e1, ← e2] at t
                exact t)
              have PN : Hid (Ps w0 w wr Z noZ b s mb met2 Ao co out2) := Lib.hid (PK.out.turn (Below.refl _ _) fun _ e => e.elim)
              clear EK PK BG EI HQ HO ED
              go_wp2
              go_roundw
              case rel => exact ⟨i + 1, co, met2, out2, Ao, by omega, by go_num, rfl, PN, EN⟩
              case measure => simp [intOf]; omega
        · have h1 : ¬ (i : Int) < (met.length : Int) := by omega
          have RE : Hid (∃ A c n, (.returned (.slice Ao out.length co) : Ending) = .returned (.slice A n c) ∧ Qu wr A n c R ∧ n ≤ 1048576 ∧ Km w0 wr (fun k => Z k ∨ blkOf A = some k) b s ∧ Kp Z w wr ∧ ∀ k, blkOf A = some k → w.heap.size ≤ k) := Lib.hid (by
            have e := EI.out.1
            rw [told_done _ _ (List.getElem?_eq_none (by omega))] at e
            refine ⟨Ao, co, out.length, rfl, by rw [← e]; exact SH.out.qu, by have := EI.out.2.2; omega, SH.out.mw.1.grow (Below.refl _ _) fun k hk => ?_, SH.out.kp, fun k e => (SH.out.ap k e).1⟩
            rcases hk with e | e
            · exact .inl (.inl (.inl e))
            · exact .inl (.inl (.inr (.inr e))))
          clear SH EI
          go_wp2
          go_ret
          exact RE.out
end Gc
end Go.Proofs.YthmhehehomieiaaGreat

/- The walk of MinorKeeps. -/
namespace Go.Proofs.YthmhehehomieiaaGreat
namespace Gc
open Go.RowKit

/-- What is shown of a heap a start, and a step, leave as it is. -/
theorem shR_do {s s' : Co} {A B : Hp} {k : Int} (c : Cyc s A) (q : DoQ s A k s' B) (hk : k < 0 ∨ 6 ≤ k) : shR s' B = shR s A := by
  have r := Inv.own c.inv
  obtain ⟨f', r'⟩ := q.rep hk _ _ r
  unfold shR
  rw [← c.sim.hs, ← q.cyc.sim.hs, shown_rep c.inv r 938, shown_rep q.cyc.inv r' 938]

set_option maxHeartbeats 4000000 in
set_option maxRecDepth 100000 in
theorem minorKeeps_walk (a b c d : Int) (ha : By a) (hb : By b) (hc : By c) (hd : By d) (Aq : Option Addr) (n cp : Nat) (w : World) (rd : RdAc w Aq n) (_ : n ≤ cp) (_ : cp ≤ maxLen) :
    Calls Tryz.prog 11 #[.int .u8 a, .int .u8 b, .int .u8 c, .int .u8 d, .slice Aq n cp] w fun e w' => e = .returned (.bool true) ∧ Below w.heap.size w w' := by
  have SM : Hid (2 * (cfgOf a b c d).nu + (cfgOf a b c d).ps * (cfgOf a b c d).pz + 1 ≤ 938) := Lib.hid (by
    obtain ⟨a0, a1⟩ := ha
    obtain ⟨b0, b1⟩ := hb
    have p := mul_in (a := b / 16 % 12 + 1) (b := 16 + 16 * (a / 64)) (A := 12) (B := 64) (by omega) (by omega) (by omega) (by omega)
    show 2 * (24 + b % 60) + (b / 16 % 12 + 1) * (16 + 16 * (a / 64)) + 1 ≤ 938
    omega)
  have HC := Lib.hid (config14_any a b c d ha hb hc hd)
  have HM := Lib.hid (cfgOf_may a b c d ha hb hc hd)
  have RD := Lib.hid rd
  clear ha hb hc hd rd
  generalize cfgOf a b c d = cf at *
  go_enter Tryz.func11, Tryz.ntmps11
  go_wp2_with fail
  refine (HC.out _).mono ?_
  rintro e w1 ⟨rfl, b1⟩
  have HN := Lib.hid (km_new (w0 := w) (Z := noZ) HM.out b1 (fun _ e => e.elim))
  clear b1 HC
  go_wp2_with fail
  refine HN.out.mono ?_
  rintro e w2 ⟨b, pt, rfl, k2, _⟩
  have K2 := Lib.hid k2
  clear k2 HN
  go_wp2_with fail
  refine (awake14_walk _).mono ?_
  rintro e w3 ⟨rfl, b3⟩
  have KL : Hid (Ml w w3 b cf 0) := Lib.hid ⟨_, _, K2.out.keep b3, fresh_cyc HM.out pt, rfl, nb_fresh⟩
  clear b3 K2 HM
  go_wp2_with fail
  go_loopw [13] (fun s wr => ∃ (i : Nat), i ≤ n ∧ i ≤ 80 ∧ s = .int .i64 i ∧ Hid (Ml w wr b cf i)) (fun s _ => n - (intOf s).toNat)
  case atStart => exact ⟨0, Nat.zero_le _, Nat.zero_le _, rfl, KL⟩
  case round =>
    clear KL
    obtain ⟨i, hi, hi2, rfl, KL⟩ := hrel
    by_cases hlt : i < n ∧ i < 80
    · obtain ⟨h1, h2⟩ := hlt
      obtain ⟨ad, k, x, p, q, rfl, _, _, iq, hcell⟩ := RD.out i h1
      obtain ⟨s, A, HG, C, ec, nb⟩ := KL.out
      obtain ⟨c0, c1, c2, c3⟩ := hcell _ HG.bel
      have h3 : (i : Int) < (n : Int) := by omega
      have h4 : (i : Int) < 80 := by omega
      have h5 : (0 : Int) ≤ (i : Int) := by omega
      by_cases hk : 0 ≤ k ∧ k < 6
      · obtain ⟨k0, k6⟩ := hk
        have HD := Lib.hid (do14_any HG C nb (by omega) k x p q iq.2)
        have NB := Lib.hid nb
        have EC := Lib.hid ec
        clear KL HG hcell C nb ec
        go_wp2_with fail
        refine HD.out.mono ?_
        rintro e w4 ⟨s', B, E, rfl, qq, k4, _⟩
        have K4 := Lib.hid k4
        have C4 := Lib.hid qq.cyc
        have N4 := Lib.hid (qq.nb i (by omega) NB.out)
        have E4 := Lib.hid (qq.cf.trans EC.out)
        clear qq k4 HD NB EC c0 c1 c2 c3
        have KN : Hid (Ml w w4 b cf (i + 1)) := Lib.hid ⟨s', B, K4.out, C4.out, E4.out, N4.out⟩
        clear K4 C4 E4 N4
        go_wp2
        go_roundw
        case rel => exact ⟨i + 1, by omega, by omega, by go_num, KN⟩
        case measure => simp [intOf]; omega
      · have HCE := Lib.hid hcell
        have hb : 2 * s.cf.nu + s.cf.ps * s.cf.pz + 1 ≤ 938 := by rw [ec]; exact SM.out
        have HS := Lib.hid (shown14_any HG C hb)
        have CC := Lib.hid C
        have NB := Lib.hid nb
        have EC := Lib.hid ec
        have kk : k < 6 ∧ ¬ 0 ≤ k ∨ ¬ k < 6 := by omega
        clear hcell HG C nb ec KL c1 c2 c3 hb
        rcases kk with ⟨k6, k0⟩ | k6
        all_goals
          have k7 : k < 0 ∨ 6 ≤ k := by omega
          go_wp2_with fail
          refine HS.out.mono ?_
          rintro e w4 ⟨A1, ca1, n1, rfl, q1, l1, k4, _⟩
          obtain ⟨c0, c1, c2, c3⟩ := HCE.out w4 k4.bel
          have HD := Lib.hid (do14_any k4 CC.out NB.out (by omega) k x p q iq.2)
          have Q1 := Lib.hid q1
          clear q1 k4 HS HCE
          go_wp2_with fail
          refine HD.out.mono ?_
          rintro e w5 ⟨s', B, E, rfl, qq, k5, p5, _⟩
          have hb : 2 * s'.cf.nu + s'.cf.ps * s'.cf.pz + 1 ≤ 938 := by rw [qq.cf, EC.out]; exact SM.out
          have HS2 := Lib.hid (shown14_any k5 qq.cyc hb)
          rw [shR_do CC.out qq k7] at HS2
          have Q2 := Lib.hid (Q1.out.kp p5 fun _ e => .inr e)
          have N4 := Lib.hid (qq.nb i (by omega) NB.out)
          have E4 := Lib.hid (qq.cf.trans EC.out)
          have C4 := Lib.hid qq.cyc
          clear qq k5 p5 hb HD Q1 NB EC c0 c1 c2 c3
          go_wp2_with fail
          refine HS2.out.mono ?_
          rintro e w6 ⟨A2, ca2, n2, rfl, q6, l2, k6', p6, _⟩
          have n12 : n2 = n1 := q6.len.symm.trans Q2.out.len
          subst n12
          have HI := Lib.hid (ints_qu A1 A2 _ ca1 ca2 _ w6 (Q2.out.kp p6 fun _ e => .inr e) q6 l2)
          have K6 := Lib.hid k6'
          clear q6 k6' p6 HS2 Q2
          go_wp2_with fail
          refine HI.out.mono ?_
          rintro e w7 ⟨rfl, b7⟩
          have KN : Hid (Ml w w7 b cf (i + 1)) := Lib.hid ⟨s', B, K6.out.grow b7 fun _ e => e.elim, C4.out, E4.out, N4.out⟩
          clear K6 C4 E4 N4 b7 HI CC
          go_wp2
          go_roundw
          case rel => exact ⟨i + 1, by omega, by omega, by go_num, KN⟩
          case measure => simp [intOf]; omega
    · have hlt : ((i : Int) < (n : Int) ∧ ¬ ((i : Int) < 80)) ∨ ¬ ((i : Int) < (n : Int)) := by omega
      obtain ⟨s, A, k, _⟩ := KL.out
      have BE := Lib.hid k.bel
      clear k KL RD
      rcases hlt with ⟨g1, g2⟩ | g1
      all_goals
        go_wp2
        go_ret
        exact ⟨rfl, BE.out⟩
end Gc
end Go.Proofs.YthmhehehomieiaaGreat

/- Two cores that go the same way, beside each other. -/
namespace Go.Proofs.YthmhehehomieiaaGreat

theorem Kp.less {Z Z' : Nat → Prop} {w w' : World} (h : Kp Z w w') (hz : ∀ k, Z' k → Z k) : Kp Z' w w' := Frm.mono h fun k _ hn hk => hn (hz k hk)

namespace Gc
open Go.RowKit

theorem Cyc.re {s : Co} {A : Hp} (c : Cyc s A) (P : Pts) : Cyc (s.re P) A :=
  { sim := { laid := c.sim.laid, hs := c.sim.hs, row := c.sim.row, cop := c.sim.cop, par := c.sim.par, few := c.sim.few, pl := c.sim.pl, beg := c.sim.beg, X := c.sim.X, Y := c.sim.Y }
    inv := c.inv, gx := c.gx, ph := c.ph, D := c.D, hnd := c.hnd, scan := c.scan, idle := c.idle }
theorem Cyc.nil {s : Co} {A : Hp} (c : Cyc s A) : A.ob 0 = none := by
  cases e : A.ob 0 with
  | none => rfl
  | some o => have := c.inv.ob_pos e; omega

/-- Two cores made since w0, blocks of Z beside them. -/
structure Tc (w0 w : World) (Z : Nat → Prop) (b1 b2 : Nat) (s t : Co) : Prop where
  is : ∃ S1 S2, Cr w b1 S1 s ∧ Cr w b2 S2 t ∧ (∀ k, S1 k → w0.heap.size ≤ k ∧ ¬ S2 k ∧ ¬ Z k) ∧ ∀ k, S2 k → w0.heap.size ≤ k ∧ ¬ Z k
  bel : Below w0.heap.size w0 w
  low : ∀ k, Z k → w0.heap.size ≤ k ∧ k < w.heap.size

section
variable {w0 w w' : World} {Z Z' : Nat → Prop} {b1 b2 : Nat} {s t : Co} {A : Hp} {P : Pts}

theorem Tc.swap (h : Tc w0 w Z b1 b2 s t) : Tc w0 w Z b2 b1 t s := by
  obtain ⟨⟨S1, S2, c1, c2, h1, h2⟩, bel, low⟩ := h
  exact ⟨⟨S2, S1, c2, c1, fun k hk => ⟨(h2 k hk).1, fun e => (h1 k e).2.1 hk, (h2 k hk).2⟩, fun k hk => ⟨(h1 k hk).1, (h1 k hk).2.2⟩⟩, bel, low⟩

/-- The first one, and what it is beside the other one behind a call. -/
theorem Tc.first (h : Tc w0 w Z b1 b2 s t) : ∃ S2 : Nat → Prop, Km w0 w (fun k => Z k ∨ S2 k) b1 s ∧
    ∀ {w' : World} {s' : Co} {Z' : Nat → Prop}, Km w0 w' (fun k => Z' k ∨ S2 k) b1 s' → Kp (fun k => Z k ∨ S2 k) w w' → (∀ k, Z' k → Z k ∨ w.heap.size ≤ k) → Tc w0 w' Z' b1 b2 s' t := by
  obtain ⟨⟨S1, S2, c1, c2, h1, h2⟩, bel, low⟩ := h
  refine ⟨S2, ⟨⟨S1, c1, fun k hk => ⟨(h1 k hk).1, fun e => e.elim (h1 k hk).2.2 (h1 k hk).2.1⟩⟩, bel, fun k hk => hk.elim (low k) fun e => ⟨(h2 k e).1, c2.lt e⟩⟩, fun {w' s' Z'} km kp hz => ?_⟩
  obtain ⟨S1', c1', h1'⟩ := km.is
  refine ⟨⟨S1', S2, c1', c2.frm kp fun k hk e => e (.inr hk), fun k hk => ⟨(h1' k hk).1, fun e => (h1' k hk).2 (.inr e), fun e => (h1' k hk).2 (.inl e)⟩, fun k hk => ⟨(h2 k hk).1, fun e => ?_⟩⟩, km.bel, fun k hk => km.low k (.inl hk)⟩
  rcases hz k e with z | z
  · exact (h2 k hk).2 z
  · have := c2.lt hk; omega

/-- A call that does not touch the cores. -/
theorem Tc.keep (h : Tc w0 w Z b1 b2 s t) (f : Below w.heap.size w w') : Tc w0 w' Z b1 b2 s t := by
  obtain ⟨S2, k, g⟩ := h.first
  exact g (k.keep f) (Kp.of_below f) fun _ => .inl

/-- An act on both, one behind the other: the first one. -/
theorem Tc.act (h : Tc w0 w Z b1 b2 s t) (c : Cyc s A) {n : Nat} (f : Nb n s) (hn : n ≤ 1000) (k a p q : Int) (q1 : q ≤ 9223372036854775807) :
    Calls Tryz.prog 47 #[ptr b1, acV k a p q] w fun e w' => ∃ s' B E, e = .returned (.int .i64 E) ∧ DoQ s A k s' B ∧ DoD s A k a p q s' B ∧ Tc w0 w' Z b1 b2 s' t := by
  obtain ⟨S2, km, g⟩ := h.first
  refine (do14_any km c f hn k a p q q1).mono ?_
  rintro e w' ⟨s', B, E, he, qq, k2, p2, dd⟩
  exact ⟨s', B, E, he, qq, dd, g k2 p2 fun _ => .inl⟩

/-- .. the other one comes to the same. -/
theorem Tc.again {s0 : Co} {A0 : Hp} (h : Tc w0 w Z b1 b2 s (s0.re P)) (c : Cyc s0 A0) {n : Nat} (f : Nb n s0) (hn : n ≤ 1000) {k a p q : Int} (q1 : q ≤ 9223372036854775807) (dd : DoD s0 A0 k a p q s A) :
    Calls Tryz.prog 47 #[ptr b2, acV k a p q] w fun e w' => ∃ E, e = .returned (.int .i64 E) ∧ Tc w0 w' Z b1 b2 s (s.re P) := by
  refine (h.swap.act (c.re P) (n := n) f hn k a p q q1).mono ?_
  rintro e w' ⟨s', B, E, he, qq, dd', tc⟩
  obtain ⟨rfl, rfl⟩ := DoD.one c.nil (dd.re P) dd'
  exact ⟨E, he, tc.swap⟩

/-- A run of the first one. -/
theorem Tc.run (h : Tc w0 w Z b1 b2 s t) (c : Cyc s A) (lf : left_ s A ≤ 1000) (work : Int) :
    Calls Tryz.prog 55 #[ptr b1, .int .i64 work] w fun e w' => ∃ d s' B, e = .returned (.int .i64 d) ∧ 0 ≤ d ∧ d ≤ 300600000 ∧ Cyc s' B ∧ s'.cf = s.cf ∧ FinD s A work d s' B ∧ Tc w0 w' Z b1 b2 s' t := by
  obtain ⟨S2, km, g⟩ := h.first
  refine (run_any km c lf work).mono ?_
  rintro e w' ⟨d, he, d0, d1, s', B, k2, p2, c2, ec, fd⟩
  exact ⟨d, s', B, he, d0, d1, c2, ec, fd, g k2 p2 fun _ => .inl⟩

/-- What is shown of the first one. -/
theorem Tc.shown (h : Tc w0 w Z b1 b2 s t) (c : Cyc s A) (hM : 2 * s.cf.nu + s.cf.ps * s.cf.pz + 1 ≤ 938) :
    Calls Tryz.prog 48 #[ptr b1] w fun e w' => ∃ Aq cq n, e = .returned (.slice Aq n cq) ∧ Qu w' Aq n cq (shR s A) ∧ n ≤ 1048576 ∧ Tc w0 w' (fun k => Z k ∨ blkOf Aq = some k) b1 b2 s t ∧ Kp Z w w' := by
  obtain ⟨S2, km, g⟩ := h.first
  refine (shown14_any km c hM).mono ?_
  rintro e w' ⟨Aq, cq, n, he, qu, hn, k2, p2, nw⟩
  refine ⟨Aq, cq, n, he, qu, hn, g (k2.grow (Below.refl _ _) fun k hk => .inl ?_) p2 fun k hk => hk.imp id fun e => ?_, p2.less fun _ => .inl⟩
  · rcases hk with (e | e) | e
    · exact .inl (.inl e)
    · exact .inr e
    · exact .inl (.inr e)
  · exact nw k e
end
end Gc
end Go.Proofs.YthmhehehomieiaaGreat

/- MinorRuns: both cores are made, and the acts done to both. -/
namespace Go.Proofs.YthmhehehomieiaaGreat
namespace Gc
open Go.RowKit

theorem tc_new {w0 w : World} {b1 : Nat} {cf : Cfg} {pt1 : Pts} (k : Km w0 w noZ b1 (Co.fresh cf pt1)) (hm : cf.May) :
    Calls Tryz.prog 19 #[cf.v] w fun e w' => ∃ b2 pt2, e = .returned (.tuple #[ptr b2, .int .i64 0]) ∧ Tc w0 w' noZ b1 b2 (Co.fresh cf pt1) ((Co.fresh cf pt1).re pt2) := by
  obtain ⟨S1, c1, h1⟩ := k.is
  refine (km_new (w0 := w0) (Z := S1) hm k.bel (fun j hj => ⟨(h1 j hj).1, c1.lt hj⟩)).mono ?_
  rintro e w' ⟨b2, pt2, he, k2, p2⟩
  obtain ⟨S2, c2, h2⟩ := k2.is
  exact ⟨b2, pt2, he, ⟨⟨S1, S2, c1.frm p2 fun j hj e => e hj, c2, fun j hj => ⟨(h1 j hj).1, fun e => (h2 j e).2 hj, fun e => e⟩, fun j hj => ⟨(h2 j hj).1, fun e => e⟩⟩, k2.bel, fun _ e => e.elim⟩⟩

/-- Two cores, i acts since they were made. -/
def Tm (w0 w : World) (b1 b2 : Nat) (cf : Cfg) (i : Nat) : Prop := ∃ s A P, Tc w0 w noZ b1 b2 s (s.re P) ∧ Cyc s A ∧ s.cf = cf ∧ Nb i s

/-- Both have come to the same. -/
def Te (w0 w : World) (b1 b2 : Nat) (cf : Cfg) : Prop := ∃ s A P, Tc w0 w noZ b1 b2 s (s.re P) ∧ Cyc s A ∧ s.cf = cf

theorem tc_same {w0 w1 w : World} {b1 b2 : Nat} {s s' t : Co} {A B C : Hp} {P : Pts} {work d d' : Int} {S1 : Nat → Prop} {cf : Cfg}
    (g : ∀ {w' : World} {s2 : Co} {Z' : Nat → Prop}, Km w0 w' (fun k => Z' k ∨ S1 k) b2 s2 → Kp (fun k => noZ k ∨ S1 k) w1 w' → (∀ k, Z' k → noZ k ∨ w1.heap.size ≤ k) → Tc w0 w' Z' b2 b1 s2 s')
    (c : Cyc s' B) (ec : s'.cf = cf) (fd : FinD s A work d s' B) (k : Km w0 w (fun k => noZ k ∨ S1 k) b2 t) (p : Kp (fun k => noZ k ∨ S1 k) w1 w) (fd' : FinD (s.re P) A work d' t C) : d' = d ∧ Te w0 w b1 b2 cf := by
  obtain ⟨rfl, rfl, rfl⟩ := (fd.re P).one fd'
  exact ⟨rfl, s', _, P, (g k p fun _ => .inl).swap, c, ec⟩
end Gc
end Go.Proofs.YthmhehehomieiaaGreat
