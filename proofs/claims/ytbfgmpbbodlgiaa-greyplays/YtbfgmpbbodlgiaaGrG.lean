/- GreyPlays: a stack of any size, by any calls. -/
import Derived.Test.YtbfgmpbbodlgiaaGrE
import Derived.Test.YtbfgmpbbodlgiaaGrF
namespace Go.Proofs.Ytbfgmpbbodlgiaa
open Go.RowKit Go.ChangeShapes Go.WideShapes

/-- A stack that holds ys, made since w0, and beside it a slice (A, n, c) of own memory that holds zs. -/
structure Gp (w0 w : World) (b : Nat) (M : Int) (l : Bool) (ys : List Int) (A : Option Addr) (n c : Nat) (zs : List Int) : Prop where
  gz : Gz w0 w (fun k => blkOf A = some k) b M l ys
  row : Qu w A n c zs

section
variable {w0 w w' : World} {b n c : Nat} {M : Int} {l : Bool} {ys zs : List Int} {A : Option Addr} {y : Int}

theorem Gp.keep (h : Gp w0 w b M l ys A n c zs) (f : Below w.heap.size w w') : Gp w0 w' b M l ys A n c zs := ⟨h.gz.keep f, h.row.keep f⟩

theorem Gp.step {l' : Bool} {ys' : List Int} (h : Gp w0 w b M l ys A n c zs) (r : Gz w0 w' (fun k => blkOf A = some k) b M l' ys') (kp : Kp (fun k => blkOf A = some k) w w') : Gp w0 w' b M l' ys' A n c zs :=
  ⟨r, h.row.kp kp fun _ e => e⟩

/-- A new slice without room is laid beside the stack. -/
theorem Gp.fresh {Z : Nat → Prop} (h : Gz w0 w Z b M l ys) : Gp w0 (w.alloc (.cells #[] 3)) b M l ys (some ⟨w.heap.size, 0, none⟩) 0 0 [] :=
  ⟨h.grow ((Below.refl _ _).alloc (Nat.le_refl _) _) (fun k e => .inr (by cases e; simp)), Qu.fresh w⟩

/-- The slice beside it has grown. -/
theorem Gp.grown {A2 : Option Addr} {n' c' : Nat} {zs' : List Int} (h : Gp w0 w b M l ys A n c zs) (q : Qu w' A2 n' c' zs') (g : Grw A A2 w w') : Gp w0 w' b M l ys A2 n' c' zs' :=
  ⟨h.gz.write g.frm (fun _ _ e => e) (fun k e => (g.at_ k e).imp id fun h => ⟨h, q.lt e⟩), q⟩

theorem Gp.but (h : Gp w0 w b M l ys A (n + 1) c (zs ++ [y])) : Gp w0 w b M l ys A n c zs := ⟨h.gz, h.row.but⟩
end

theorem gr_fits {N : Nat} {m : Int} (h : N < 1048576) : (N : Int) < cutI m 0 1048576 ↔ (N : Int) < m := by
  unfold cutI
  split
  · omega
  · split <;> omega

/-- The box of an act, and what is beside it. -/
structure Gb (w0 w : World) (b : Nat) (M : Int) (l : Bool) (ys : List Int) (A : Option Addr) (n c : Nat) (zs : List Int) (a : Nat) (x0 x1 : Int) (L : Option Addr) (m d : Nat) : Prop where
  gz : Gz w0 w (fun k => blkOf A = some k ∨ k = a) b M l ys
  row : Qu w A n c zs
  box : Blk w a #[.int .i64 x0, .int .i64 x1, .slice L m d] 27

section
variable {w0 w w' : World} {b n c a m d : Nat} {M x0 x1 : Int} {l : Bool} {ys zs : List Int} {A L : Option Addr} {y : Int}

theorem Gp.act (h : Gp w0 w b M l ys A n c zs) (x0 x1 : Int) (L : Option Addr) (m d : Nat) :
    Gb w0 (w.alloc (.cells #[.int .i64 x0, .int .i64 x1, .slice L m d] 27)) b M l ys A n c zs w.heap.size x0 x1 L m d :=
  have f := (Below.refl w.heap.size w).alloc (Nat.le_refl _) (.cells #[.int .i64 x0, .int .i64 x1, .slice L m d] 27)
  ⟨h.gz.grow f (fun k e => e.imp id fun e => by subst e; simp), h.row.keep f, Blk.new _ _ _⟩

theorem Gb.done (h : Gb w0 w b M l ys A n c zs a x0 x1 L m d) : Gp w0 w b M l ys A n c zs := ⟨h.gz.grow (Below.refl _ _) (fun _ e => .inl (.inl e)), h.row⟩

theorem Gb.keep (h : Gb w0 w b M l ys A n c zs a x0 x1 L m d) (f : Below w.heap.size w w') : Gb w0 w' b M l ys A n c zs a x0 x1 L m d := ⟨h.gz.keep f, h.row.keep f, h.box.keep f⟩

theorem Gb.step {l' : Bool} {ys' : List Int} (h : Gb w0 w b M l ys A n c zs a x0 x1 L m d) (r : Gz w0 w' (fun k => blkOf A = some k ∨ k = a) b M l' ys') (kp : Kp (fun k => blkOf A = some k ∨ k = a) w w') : Gb w0 w' b M l' ys' A n c zs a x0 x1 L m d :=
  ⟨r, h.row.kp kp fun _ e => .inl e, h.box.kp kp (.inr rfl)⟩

theorem Gb.ne (h : Gb w0 w b M l ys A n c zs a x0 x1 L m d) : blkOf A ≠ some a := by
  intro e
  rcases h.row.lies with ⟨rfl, _⟩ | ⟨g, off, cs, rfl, hg, _⟩
  · cases e
  · cases e
    exact Blk.ne_ h.box hg (by decide) rfl

theorem Gb.grown {A2 : Option Addr} {n' c' : Nat} {zs' : List Int} (h : Gb w0 w b M l ys A n c zs a x0 x1 L m d) (q : Qu w' A2 n' c' zs') (g : Grw A A2 w w') : Gb w0 w' b M l ys A2 n' c' zs' a x0 x1 L m d :=
  ⟨h.gz.write g.frm (fun _ _ e => .inl e) (fun k e => by
    rcases e with e | e
    · exact (g.at_ k e).imp .inl fun h => ⟨h, q.lt e⟩
    · exact .inl (.inr e)), q, h.box.frm g.frm h.ne⟩

theorem Gb.fresh (h : Gb w0 w b M l ys A n c zs a x0 x1 L m d) : Gb w0 (w.alloc (.cells #[] 3)) b M l ys (some ⟨w.heap.size, 0, none⟩) 0 0 [] a x0 x1 L m d :=
  have f := (Below.refl w.heap.size w).alloc (Nat.le_refl _) (.cells #[] 3)
  ⟨h.gz.grow f (fun k e => by
    rcases e with e | e
    · cases e; exact .inr (by simp)
    · exact .inl (.inr e)), Qu.fresh w, h.box.keep f⟩

theorem Gb.but (h : Gb w0 w b M l ys A (n + 1) c (zs ++ [y]) a x0 x1 L m d) : Gb w0 w b M l ys A n c zs a x0 x1 L m d := ⟨h.gz, h.row.but, h.box⟩

theorem Gb.cells (h : Gb w0 w b M l ys A n c zs a x0 x1 L m d) : w.cell? ⟨a, 0, none⟩ = some (.int .i64 x0) ∧ w.cell? ⟨a, 1, none⟩ = some (.int .i64 x1) ∧ w.cell? ⟨a, 2, none⟩ = some (.slice L m d) := ⟨h.box.cell 0, h.box.cell 1, h.box.cell 2⟩

theorem Gp.len (h : Gp w0 w b M l ys A n c ys) : ys.length = n := h.row.len
theorem gp_len (h : Gp w0 w b M l ys A n c ys) : Calls Try.prog 13 #[grP b] w fun e w' => e = .returned (.int .i64 n) ∧ w = w' := by
  have hl := h.row.len
  subst hl
  exact gz_len h.gz
theorem gp_all (h : Gp w0 w b M l ys A n c ys) :
    Calls Try.prog 15 #[grP b] w fun e w' => ∃ A' c', e = .returned (.slice A' n c') ∧ Qu w' A' n c' ys ∧ Gp w0 w' b M l ys A n c ys := by
  have hl := h.row.len
  subst hl
  exact (gz_all h.gz).mono fun _ _ ⟨A', c', he, q, bb⟩ => ⟨A', c', he, q, h.keep bb⟩
end

theorem Rd.below {k : IntKind} {w w' : World} {A : Option Addr} {n : Nat} {xs : List Int} (h : Rd k w A n xs) (f : Below w.heap.size w w') : Rd k w' A n xs :=
  ⟨h.1, fun i x hx => by
    obtain ⟨ad, e, hl, hc⟩ := h.2 i x hx
    exact ⟨ad, e, Nat.lt_of_lt_of_le hl f.size, (f.cell (p := ad.add i) (by rw [block_of_add]; exact hl)).trans hc⟩⟩

theorem Rd.low {k : IntKind} {w : World} {A : Option Addr} {n : Nat} {xs : List Int} (h : Rd k w A n xs) (hn : 0 < n) {ad : Addr} (e : A = some ad) : ad.block < w.heap.size := by
  have hx := List.getElem?_eq_getElem (l := xs) (i := 0) (by have := h.1; omega)
  obtain ⟨ad', e', hl, _⟩ := h.2 0 _ hx
  rw [e] at e'
  cases e'
  exact hl
end Go.Proofs.Ytbfgmpbbodlgiaa
