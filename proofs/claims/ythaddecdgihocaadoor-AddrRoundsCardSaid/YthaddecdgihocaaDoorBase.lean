/- What the rows of layer 1 share: the package variables as the program's text lays them give what the walks ask. -/
import Derived.Test.YthaddecdgihocaaDoorLaws
import Derived.Test.YthaddecdgihocaaDoorLaid
import Derived.Test.YthaddecdgihocaaDoorRows
namespace Go.Proofs.YthaddecdgihocaaDoor
open Go.ChangeShapes Go.WideShapes Go.ChangeAt Go.WideMaps Go.WideElems Go.RowKit Go

theorem own : ownKnob Tryd.prog.godebug = none := by kernel_rfl
abbrev laids : List (String × DataW Unit) := [("selion/addr.units", Rows.laid_selion_addr_units), ("selion/addr.classes", Rows.laid_selion_addr_classes), ("selion/addr.errAddr", Rows.laid_selion_addr_errAddr), ("selion/addr.errSize", Rows.laid_selion_addr_errSize), ("selion/addr.errRef", Rows.laid_selion_addr_errRef)]
/-- The door's own heap meets the condition. -/
theorem door_met (os : Os) (args : Array Value) : laidMetH Tryd.prog laids ((World.doorLaid Tryd.prog 400 os).forCall (fun _ _ => 0) ⟨#[], args, []⟩).memory :=
  laidMetH_of_parts3 (fuel := 8) (laidMet_of_run' 8 (by kernel_rfl) (by kernel_rfl)) (by kernel_rfl) (by kernel_rfl)
theorem g_units : Tryd.prog.globalNamed "selion/addr.units" = some 1 := by kernel_rfl
theorem g_classes : Tryd.prog.globalNamed "selion/addr.classes" = some 4 := by kernel_rfl
theorem g_errAddr : Tryd.prog.globalNamed "selion/addr.errAddr" = some 0 := by kernel_rfl
theorem g_errSize : Tryd.prog.globalNamed "selion/addr.errSize" = some 2 := by kernel_rfl
theorem g_errRef : Tryd.prog.globalNamed "selion/addr.errRef" = some 3 := by kernel_rfl
theorem t_units : (Tryd.prog.globals[1]?).map (·.type) = some 39 := by kernel_rfl
theorem t_classes : (Tryd.prog.globals[4]?).map (·.type) = some 60 := by kernel_rfl
theorem t_errAddr : (Tryd.prog.globals[0]?).map (·.type) = some 50 := by kernel_rfl
theorem t_errSize : (Tryd.prog.globals[2]?).map (·.type) = some 50 := by kernel_rfl
theorem t_errRef : (Tryd.prog.globals[3]?).map (·.type) = some 50 := by kernel_rfl
theorem d_units : dec Tryd.prog 8 39 Rows.laid_selion_addr_units = some [.int .i64 4096, .int .i64 128, .int .i64 1] := by kernel_rfl
theorem d_classes : dec Tryd.prog 8 60 Rows.laid_selion_addr_classes = some [.int .i64 1, .int .i64 1, .int .i64 128, .int .i64 2, .int .i64 129, .int .i64 2048, .int .i64 3, .int .i64 2049, .int .i64 131072] := by kernel_rfl
theorem starE : ("*" : String) ++ "errors.errorString" = "*errors.errorString" := by decide
theorem errTypes : ErrTypes Tryd.prog 50 75 where
  i := ⟨_, Tryd.underlying50⟩
  row := fun u h => typeName_ptr_named (nm := "errors.errorString") (by rw [starE]; kernel_rfl) (by kernel_rfl) (by decide) u (by rw [starE]; exact h)
  rest := ⟨_, _, _, Tryd.underlying75, Tryd.underlying100, rfl, rfl, Tryd.underlying9, by kernel_rfl, by kernel_rfl⟩
theorem sizes_g : 5 ≤ Tryd.prog.globals.size := by decide +kernel

theorem G_of_laid {W : World} (h0 : laidMetH Tryd.prog laids W) : ∃ a0 a2 a3, G a0 a2 a3 W := by
  rw [MakeChecks.laidMetH_plain _ _ _ (by kernel_rfl)] at h0
  obtain ⟨a0, c0, t0, e0, b0⟩ := laid_err h0 2 rfl errTypes g_errAddr t_errAddr
  obtain ⟨a2, c2, t2, e2, b2⟩ := laid_err h0 3 rfl errTypes g_errSize t_errSize
  obtain ⟨a3, c3, t3, e3, b3⟩ := laid_err h0 4 rfl errTypes g_errRef t_errRef
  have lt : ∀ {a : Addr} {c : Array Value} {t : TypeId}, W.heap[a.block]? = some (.cells c t (0, 0)) → a.block < W.heap.size := fun h => (Array.getElem?_eq_some_iff.1 h).1
  have lt' : ∀ {b o : Nat} {v : Value}, W.cell? ⟨b, o, none⟩ = some v → b < W.heap.size := fun {b o v} h => by
    simp only [World.cell?] at h
    split at h
    · rename_i e; exact (Array.getElem?_eq_some_iff.1 e).1
    · cases h
  have u := fun o => laid_cells h0 0 rfl 8 g_units t_units d_units o
  have k := fun o => laid_cells h0 1 rfl 8 g_classes t_classes d_classes o
  have z0 := lt' e0
  have z2 := lt' e2
  have z3 := lt' e3
  have zu := lt' (u 0)
  have zk := lt' (k 0)
  exact ⟨a0, a2, a3, by omega, e0, e2, e3, laid_errs_ne h0 2 3 (by decide) rfl rfl errTypes g_errAddr t_errAddr g_errSize t_errSize e0 e2, laid_errs_ne h0 2 4 (by decide) rfl rfl errTypes g_errAddr t_errAddr g_errRef t_errRef e0 e3,
    laid_errs_ne h0 3 4 (by decide) rfl rfl errTypes g_errSize t_errSize g_errRef t_errRef e2 e3, lt b0, lt b2, lt b3, ⟨c0, t0, b0⟩, ⟨c2, t2, b2⟩, ⟨c3, t3, b3⟩, u 0, u 1, u 2, k 0, k 1, k 2, k 3, k 4, k 5, k 6, k 7, k 8⟩
end Go.Proofs.YthaddecdgihocaaDoor
