/- What the rows of layer 4 share that list strconv's table too: the package variables as the program's text lays them give what the walks ask (made by gen_base.py). -/
import Derived.Test.YtgmpcinlkiiboaaGreatDoorOpenD
import Derived.Test.YtgmpcinlkiiboaaGreatDoorPrintD
import Derived.Lib.LaidTab
namespace Go.Proofs.YtgmpcinlkiiboaaGreatDoor
open Go.ChangeShapes Go.WideShapes Go.ChangeAt Go.WideMaps Go.WideElems Go.RowKit Go.Deep Go
theorem g_pow10 : Tryz.prog.globalNamed "internal/strconv.uint64pow10" = some 7 := by kernel_rfl
theorem t_pow10 : (Tryz.prog.globals[7]?).map (·.type) = some 137 := by kernel_rfl
abbrev laidsT : List (String × DataW Unit) := [("math/bits.deBruijn32tab", Rows.laid_math_bits_deBruijn32tab), ("math/bits.deBruijn64tab", Rows.laid_math_bits_deBruijn64tab), ("internal/strconv.uint64pow10", Rows.laid_internal_strconv_uint64pow10), ("errors.errorType", Rows.laid_errors_errorType), ("selion/addr.classes", Rows.laid_selion_addr_classes), ("selion/addr.errAddr", Rows.laid_selion_addr_errAddr), ("selion/addr.errSize", Rows.laid_selion_addr_errSize), ("selion/addr.errRef", Rows.laid_selion_addr_errRef), ("selion/desc.errDesc", Rows.laid_selion_desc_errDesc), ("selion/desc.errLen", Rows.laid_selion_desc_errLen), ("selion/desc.errText", Rows.laid_selion_desc_errText)]
abbrev plainsT : List (String × DataW Unit) := [("math/bits.deBruijn32tab", Rows.laid_math_bits_deBruijn32tab), ("math/bits.deBruijn64tab", Rows.laid_math_bits_deBruijn64tab), ("internal/strconv.uint64pow10", Rows.laid_internal_strconv_uint64pow10), ("selion/addr.classes", Rows.laid_selion_addr_classes), ("selion/addr.errAddr", Rows.laid_selion_addr_errAddr), ("selion/addr.errSize", Rows.laid_selion_addr_errSize), ("selion/addr.errRef", Rows.laid_selion_addr_errRef), ("selion/desc.errDesc", Rows.laid_selion_desc_errDesc), ("selion/desc.errLen", Rows.laid_selion_desc_errLen), ("selion/desc.errText", Rows.laid_selion_desc_errText)]
/-- The door's own heap meets the condition. -/
theorem door_metT (os : Os) (args : Array Value) : laidMetH Tryz.prog laidsT ((World.doorLaid Tryz.prog 400 os).forCall (fun _ _ => 0) ⟨#[], args, []⟩).memory :=
  laidMetH_of_parts3 (fuel := 8) (laidMet_of_run' 8 (by kernel_rfl) (by kernel_rfl)) (by kernel_rfl) (by kernel_rfl)
theorem handlesT : (laidsT.filter fun x => x.2.handleName?.isSome) = [("errors.errorType", Rows.laid_errors_errorType)] := by kernel_rfl
theorem othersT : (laidsT.filter fun x => x.2.handleName?.isNone) = plainsT := by kernel_rfl
theorem partedT {W : World} (h : laidMetH Tryz.prog laidsT W) : laidMet Tryz.prog plainsT W ∧ handlesMet Tryz.prog [("errors.errorType", Rows.laid_errors_errorType)] W := by
  unfold laidMetH at h
  rw [handlesT, othersT] at h
  exact h
theorem G_of_laidT {W : World} (hL : laidMetH Tryz.prog laidsT W) : G W ∧ HTab W := by
  obtain ⟨h0, h1⟩ := partedT hL
  have ty := handle_of_laid h1
  obtain ⟨j0, jc0, jt0, je0, jb0⟩ := laid_err h0 4 rfl errTypes g_jAddr t_jAddr
  obtain ⟨j2, jc2, jt2, je2, jb2⟩ := laid_err h0 5 rfl errTypes g_jSize t_jSize
  obtain ⟨j3, jc3, jt3, je3, jb3⟩ := laid_err h0 6 rfl errTypes g_jRef t_jRef
  obtain ⟨a0, c0, t0, e0, b0⟩ := laid_err h0 7 rfl errTypes g_errDesc t_errDesc
  obtain ⟨a1, c1, t1, e1, b1⟩ := laid_err h0 8 rfl errTypes g_errLen t_errLen
  obtain ⟨a2, c2, t2, e2, b2⟩ := laid_err h0 9 rfl errTypes g_errText t_errText
  have lt : ∀ {a : Addr} {c : Array Value} {t : TypeId}, W.heap[a.block]? = some (.cells c t (0, 0)) → a.block < W.heap.size := fun h => (Array.getElem?_eq_some_iff.1 h).1
  have k := fun o => laid_cells h0 3 rfl 8 g_classes t_classes d_classes o
  have z0 := lt_of_cell je0
  have z2 := lt_of_cell je2
  have z3 := lt_of_cell je3
  have zk := lt_of_cell (k 0)
  have y0 := lt_of_cell e0
  have y1 := lt_of_cell e1
  have y2 := lt_of_cell e2
  have y3 := lt_of_cell ty
  have tab := laid_tab h0 2 (show plainsT[2]? = some ("internal/strconv.uint64pow10", Lib.tabData .u64 Lib.pow10Tab) from rfl) g_pow10 t_pow10 Tryz.underlying137 Tryz.underlying127 (by kernel_rfl) (by kernel_rfl)
  refine ⟨⟨sizes_ok y0 y1 y2 y3 z0 z2 z3 zk, ⟨_, _, e0⟩, ⟨_, _, e1⟩, ⟨_, _, e2⟩, ty, j0, j2, j3, sizes_ok y0 y1 y2 y3 z0 z2 z3 zk, je0, je2, je3, laid_errs_ne h0 4 5 (by decide) rfl rfl errTypes g_jAddr t_jAddr g_jSize t_jSize je0 je2, laid_errs_ne h0 4 6 (by decide) rfl rfl errTypes g_jAddr t_jAddr g_jRef t_jRef je0 je3,
      laid_errs_ne h0 5 6 (by decide) rfl rfl errTypes g_jSize t_jSize g_jRef t_jRef je2 je3, lt jb0, lt jb2, lt jb3, ⟨jc0, jt0, jb0⟩, ⟨jc2, jt2, jb2⟩, ⟨jc3, jt3, jb3⟩, k 0, k 1, k 2, k 3, k 4, k 5, k 6, k 7, k 8⟩, Lib.tabBelow_of_tabIs tab⟩
end Go.Proofs.YtgmpcinlkiiboaaGreatDoor
