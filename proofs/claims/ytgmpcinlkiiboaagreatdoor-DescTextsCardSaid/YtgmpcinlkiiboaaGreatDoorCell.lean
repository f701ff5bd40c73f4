/- A cell of an older world. -/
import Derived.Test.YtgmpcinlkiiboaaGreatDoorDraw
namespace Go.Proofs.YtgmpcinlkiiboaaGreatDoor
open Go.RowKit Go
theorem on_cell {W : World} {p : Addr} {v : Value} (h : W.cell? p = some v) (o : From W) : o.w.cell? p = some v := (From.cell o p (by rw [h]; rfl)).trans h
end Go.Proofs.YtgmpcinlkiiboaaGreatDoor
