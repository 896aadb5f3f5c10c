
/- Contract of Check: ErrArg just where one of the thirteen conditions fails. -/
import Derived.Test.YthfbhdffmipmpaaFrm
import Derived.Test.YthfbhdffmipmpaaConfA
import Derived.StillTailTactics
namespace Go.Proofs.Ythfbhdffmipmpaa
open Go.RowKit

/-- A configuration as a value. -/
abbrev cfV (ha nu ps pz cd bf st tn lg mi ma na ja : Int) : Value :=
  .agg #[.int .i64 ha, .int .i64 nu, .int .i64 ps, .int .i64 pz, .int .i64 cd, .int .i64 bf, .int .i64 st, .int .i64 tn, .int .i64 lg, .int .i64 mi, .int .i64 ma, .int .i64 na, .int .i64 ja]

theorem Blk.thirteen {w : World} {b : Nat} {t : TypeId} {v0 v1 v2 v3 v4 v5 v6 v7 v8 v9 v10 v11 v12 : Value} (h : Blk w b #[v0, v1, v2, v3, v4, v5, v6, v7, v8, v9, v10, v11, v12] t) :
    w.cell? ⟨b, 0, none⟩ = some v0 ∧ w.cell? ⟨b, 1, none⟩ = some v1 ∧ w.cell? ⟨b, 2, none⟩ = some v2 ∧ w.cell? ⟨b, 3, none⟩ = some v3 ∧ w.cell? ⟨b, 4, none⟩ = some v4 ∧ w.cell? ⟨b, 5, none⟩ = some v5 ∧ w.cell? ⟨b, 6, none⟩ = some v6 ∧
    w.cell? ⟨b, 7, none⟩ = some v7 ∧ w.cell? ⟨b, 8, none⟩ = some v8 ∧ w.cell? ⟨b, 9, none⟩ = some v9 ∧ w.cell? ⟨b, 10, none⟩ = some v10 ∧ w.cell? ⟨b, 11, none⟩ = some v11 ∧ w.cell? ⟨b, 12, none⟩ = some v12 :=
  ⟨h.cell 0, h.cell 1, h.cell 2, h.cell 3, h.cell 4, h.cell 5, h.cell 6, h.cell 7, h.cell 8, h.cell 9, h.cell 10, h.cell 11, h.cell 12⟩

def cnds (ha nu ps pz cd bf st tn lg mi ma na ja : Int) : List Bool :=
  [wiB ha 1 64, wiB nu 8 4096, wiB ps 0 64, wiB pz 16 256, dvB cd pz, wiB bf 0 256, wiB st 1 256, wiB tn 1 7, wiB lg 0 (if IntKind.i64.wrap (nu - 2) < 64 then IntKind.i64.wrap (nu - 2) else 64), wiB mi 0 64, wiB ma 0 64, wiB na 0 nu, wiB ja 0 ps]

def mayB (ha nu ps pz cd bf st tn lg mi ma na ja : Int) : Bool := (cnds ha nu ps pz cd bf st tn lg mi ma na ja).all id

def errI (b : Bool) : Int := if b then 0 else 1



end Go.Proofs.Ythfbhdffmipmpaa
