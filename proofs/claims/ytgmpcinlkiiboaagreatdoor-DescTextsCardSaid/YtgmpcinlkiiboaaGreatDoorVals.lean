/- What Kind and Slots answer; lists of ints that are appended to. -/
import Derived.Test.YtgmpcinlkiiboaaGreatDoorInts
import Derived.Test.YtgmpcinlkiiboaaGreatDoorApp
import Derived.Laws.OwnMore
namespace Go.Proofs.YtgmpcinlkiiboaaGreatDoor
open Go.RowKit Go
def kindV (d : DescR) (n x : Int) : Int := if rightB d && lenB d n then kindP d n x else 0
theorem lenB_le {d : DescR} {n : Int} (h : lenB d n = true) : 0 ≤ n ∧ n ≤ 131072 := by
  simp only [lenB, Bool.and_eq_true, decide_eq_true_eq] at h
  exact ⟨h.1.1.1, h.1.2⟩
def encZ (l : List Int) : List Value := l.map (Value.int .i64)
theorem infoZ : (Tryz.prog.info? 3).map (fun i => (i.zero, i.size, i.bytes)) = some (some (.int .i64 0), 1, 8) := by kernel_rfl
theorem il_of_own {w w' : World} {base : Nat} {L : List Int} {v : Value} (h : w.ownsRow base 3 1 v L.length (encZ L)) (he : Ext w w') : ∃ A c, v = .slice A L.length c ∧ Il w' A L.length L := by
  obtain ⟨A, c, rfl, hr⟩ := rd_of_own h
  refine ⟨A, c, rfl, rfl, fun hn => ?_⟩
  obtain ⟨ad, e, hb, hc⟩ := (hr.ext he) hn
  refine ⟨ad, e, hb, fun j hj => ?_⟩
  rw [hc j hj]
  simp [encZ, hj]
/-- What Slots lists. -/
def slotsV (d : DescR) (n : Int) : List Int := if rightB d && lenB d n then slotsF d n.toNat else []
def SlotsR (w : World) (d : DescR) (n : Int) (e : Ending) (w' : World) : Prop :=
  ∃ A c, e = .returned (.tuple #[.slice A (slotsV d n).length c, .int .i64 (bytesE d n)]) ∧ Il w' A (slotsV d n).length (slotsV d n) ∧ Ext w w'
end Go.Proofs.YtgmpcinlkiiboaaGreatDoor
