/- Contracts over Int. -/
import Derived.Test.YthhbamllnacklaaArenaD
namespace Go.Proofs.Ythhbamllnacklaa
open Go.RowKit

section
variable (a b : Nat) (ws : List Int) (c : Int) (w : World) (h : IsAr w a b ws c) (hl : ws.length ≤ 1048576)
include h hl
theorem load_at (k x : Int) (h0 : 0 ≤ k) (hx : ws[k.toNat]? = some x) :
    Calls Try.prog 25 #[arP a, .int .i64 k] w fun e w' => e = .returned (.tuple #[.int .u64 x, .int .i64 0]) ∧ Turns a b ws (addC c 1) w w' := by
  have := load_yes a b ws c k.toNat x w h hl hx
  rwa [Int.toNat_of_nonneg h0] at this
theorem store_at (k x : Int) (h0 : 0 ≤ k) (hk : k.toNat < ws.length) :
    Calls Try.prog 23 #[arP a, .int .i64 k, .int .u64 x] w fun e w' => e = .returned (.int .i64 0) ∧ Turns a b (ws.set k.toNat x) (addC c 1) w w' := by
  have := store_yes a b ws c k.toNat x w h hl hk
  rwa [Int.toNat_of_nonneg h0] at this
theorem zero_at (k n : Int) (h0 : 0 ≤ k) (h1 : 0 ≤ n) (hk : k + n ≤ ws.length) :
    Calls Try.prog 28 #[arP a, .int .i64 k, .int .i64 n] w fun e w' => e = .returned (.int .i64 0) ∧ Turns a b (splice ws k.toNat (List.replicate n.toNat 0)) (addC c n) w w' := by
  have := zero_yes a b ws c k.toNat n.toNat w h hl (by omega)
  rwa [Int.toNat_of_nonneg h0, Int.toNat_of_nonneg h1] at this
theorem copy_at (x y n : Int) (h0 : 0 ≤ x) (h1 : 0 ≤ y) (h2 : 0 ≤ n) (hx : x + n ≤ ws.length) (hy : y + n ≤ ws.length) :
    Calls Try.prog 35 #[arP a, .int .i64 x, .int .i64 y, .int .i64 n] w fun e w' => e = .returned (.int .i64 0) ∧ Turns a b (splice ws y.toNat ((ws.drop x.toNat).take n.toNat)) (addC c (2 * n)) w w' := by
  have := copy_yes a b ws c x.toNat y.toNat n.toNat w h hl (by omega) (by omega)
  rwa [Int.toNat_of_nonneg h0, Int.toNat_of_nonneg h1, Int.toNat_of_nonneg h2] at this
end

theorem IsAr.to {w : World} {a b : Nat} {ws ws' : List Int} {c c' : Int} (h : IsAr w a b ws c) (e : ws = ws') (f : c = c') : IsAr w a b ws' c' := by subst e f; exact h

/-- What the fresh arena has done stays above what was there. -/
theorem below_turns {W w w' : World} {a b : Nat} {ws : List Int} {c : Int} (hb : Below W.heap.size W w) (t : Turns a b ws c w w') (ha : W.heap.size ≤ a) (hb' : W.heap.size ≤ b) : Below W.heap.size W w' :=
  Below.frm hb t.frm hb.size (fun k hk => by omega)
end Go.Proofs.Ythhbamllnacklaa
