/- What the rows of layer 5 share: the package variables as the program's text lays them give what the walks ask (made by gen_base.py). -/
import Derived.Test.YtopgbggighaknaaGreatDoorOpen5
import Derived.Test.YtopgbggighaknaaGreatDoorM10
import Derived.Lib.LaidTab
namespace Go.Proofs.YtopgbggighaknaaGreatDoor
open Go.ChangeShapes Go.WideShapes Go.ChangeAt Go.WideMaps Go.WideElems Go.RowKit Go.Deep Go
theorem g_pow10 : Tryz.prog.globalNamed "internal/strconv.uint64pow10" = some 8 := by kernel_rfl
theorem t_pow10 : (Tryz.prog.globals[8]?).map (·.type) = some 151 := by kernel_rfl
abbrev laidsT : List (String × DataW Unit) := [("math/bits.deBruijn32tab", Rows.laid_math_bits_deBruijn32tab), ("math/bits.deBruijn64tab", Rows.laid_math_bits_deBruijn64tab), ("internal/strconv.uint64pow10", Rows.laid_internal_strconv_uint64pow10), ("errors.errorType", Rows.laid_errors_errorType), ("selion/desc.errDesc", Rows.laid_selion_desc_errDesc), ("selion/desc.errText", Rows.laid_selion_desc_errText), ("selion/kinds.errDesc", Rows.laid_selion_kinds_errDesc), ("selion/kinds.errEnd", Rows.laid_selion_kinds_errEnd), ("selion/kinds.errTwice", Rows.laid_selion_kinds_errTwice), ("selion/kinds.errMany", Rows.laid_selion_kinds_errMany), ("selion/kinds.errKind", Rows.laid_selion_kinds_errKind)]
abbrev plainsT : List (String × DataW Unit) := [("math/bits.deBruijn32tab", Rows.laid_math_bits_deBruijn32tab), ("math/bits.deBruijn64tab", Rows.laid_math_bits_deBruijn64tab), ("internal/strconv.uint64pow10", Rows.laid_internal_strconv_uint64pow10), ("selion/desc.errDesc", Rows.laid_selion_desc_errDesc), ("selion/desc.errText", Rows.laid_selion_desc_errText), ("selion/kinds.errDesc", Rows.laid_selion_kinds_errDesc), ("selion/kinds.errEnd", Rows.laid_selion_kinds_errEnd), ("selion/kinds.errTwice", Rows.laid_selion_kinds_errTwice), ("selion/kinds.errMany", Rows.laid_selion_kinds_errMany), ("selion/kinds.errKind", Rows.laid_selion_kinds_errKind)]
/-- The door's own heap meets the condition. -/
theorem door_metT (os : Os) (args : Array Value) : laidMetH Tryz.prog laidsT ((World.doorLaid Tryz.prog 400 os).forCall (fun _ _ => 0) ⟨#[], args, []⟩).memory :=
  laidMetH_of_parts3 (fuel := 8) (laidMet_of_run' 8 (by kernel_rfl) (by kernel_rfl)) (by kernel_rfl) (by kernel_rfl)
theorem handlesT : (laidsT.filter fun x => x.2.handleName?.isSome) = [("errors.errorType", Rows.laid_errors_errorType)] := by kernel_rfl
theorem othersT : (laidsT.filter fun x => x.2.handleName?.isNone) = plainsT := by kernel_rfl
theorem partedT {W : World} (h : laidMetH Tryz.prog laidsT W) : laidMet Tryz.prog plainsT W ∧ handlesMet Tryz.prog [("errors.errorType", Rows.laid_errors_errorType)] W := by
  unfold laidMetH at h
  rw [handlesT, othersT] at h
  exact h
theorem G_of_laidT {W : World} (hL : laidMetH Tryz.prog laidsT W) : K.G W ∧ HTab W := by
  obtain ⟨h0, h1⟩ := partedT hL
  have ty := handle_of_laid h1
  obtain ⟨a_d0, c_d0, t_d0', e_d0, b_d0⟩ := laid_err h0 3 rfl errTypes g_d0 t_d0
  obtain ⟨a_d2, c_d2, t_d2', e_d2, b_d2⟩ := laid_err h0 4 rfl errTypes g_d2 t_d2
  obtain ⟨a_k0, c_k0, t_k0', e_k0, b_k0⟩ := laid_err h0 5 rfl errTypes g_k0 t_k0
  obtain ⟨a_k1, c_k1, t_k1', e_k1, b_k1⟩ := laid_err h0 6 rfl errTypes g_k1 t_k1
  obtain ⟨a_k2, c_k2, t_k2', e_k2, b_k2⟩ := laid_err h0 7 rfl errTypes g_k2 t_k2
  obtain ⟨a_k3, c_k3, t_k3', e_k3, b_k3⟩ := laid_err h0 8 rfl errTypes g_k3 t_k3
  obtain ⟨a_k4, c_k4, t_k4', e_k4, b_k4⟩ := laid_err h0 9 rfl errTypes g_k4 t_k4
  have tab := laid_tab h0 2 (show plainsT[2]? = some ("internal/strconv.uint64pow10", Lib.tabData .u64 Lib.pow10Tab) from rfl) g_pow10 t_pow10 Tryz.underlying151 Tryz.underlying142 (by kernel_rfl) (by kernel_rfl)
  have sz := sizes_ok (lt_of_cell e_d0) (lt_of_cell e_d2) (lt_of_cell e_k0) (lt_of_cell e_k1) (lt_of_cell e_k2) (lt_of_cell e_k3) (lt_of_cell e_k4) (lt_of_cell ty)
  exact ⟨⟨⟨sz.1, ⟨_, _, e_d0⟩, ⟨_, _, e_d2⟩, ty⟩, sz.2, ⟨_, _, e_k0⟩, ⟨_, _, e_k1⟩, ⟨_, _, e_k2⟩, ⟨_, _, e_k3⟩, ⟨_, _, e_k4⟩⟩, Lib.tabBelow_of_tabIs tab⟩
end Go.Proofs.YtopgbggighaknaaGreatDoor
