/- What the rows of layer 2 share: the package variables as the program's text lays them give what the walks ask; an argument's bits, opened. -/
import Derived.Test.YtichgkeglgagfaaDoorCut
import Derived.Test.YtichgkeglgagfaaDoorLaid
import Derived.Test.YtichgkeglgagfaaDoorRows
import Derived.Carry
import Derived.ChangeSlices
import Derived.Lib.SmallJoins
namespace Go.Proofs.YtichgkeglgagfaaDoor
open Go.ChangeShapes Go.WideShapes Go.ChangeAt Go.WideMaps Go.WideElems Go.RowKit Go

theorem own : ownKnob Tryd.prog.godebug = none := by kernel_rfl
theorem lays : laidOutB Tryd.prog = true := by kernel_rfl
abbrev laids : List (String × DataW Unit) := [("math/bits.deBruijn32tab", Rows.laid_math_bits_deBruijn32tab), ("selion/bits.errArg", Rows.laid_selion_bits_errArg), ("selion/bits.errBits", Rows.laid_selion_bits_errBits), ("selion/bits.errPlace", Rows.laid_selion_bits_errPlace)]
/-- The door's own heap meets the condition. -/
theorem door_met (os : Os) (args : Array Value) : laidMetH Tryd.prog laids ((World.doorLaid Tryd.prog 400 os).forCall (fun _ _ => 0) ⟨#[], args, []⟩).memory :=
  laidMetH_of_parts3 (fuel := 8) (laidMet_of_run' 8 (by kernel_rfl) (by kernel_rfl)) (by kernel_rfl) (by kernel_rfl)
theorem g_tab : Tryd.prog.globalNamed "math/bits.deBruijn32tab" = some 3 := by kernel_rfl
theorem g_errArg : Tryd.prog.globalNamed "selion/bits.errArg" = some 0 := by kernel_rfl
theorem g_errBits : Tryd.prog.globalNamed "selion/bits.errBits" = some 1 := by kernel_rfl
theorem g_errPlace : Tryd.prog.globalNamed "selion/bits.errPlace" = some 2 := by kernel_rfl
theorem t_tab : (Tryd.prog.globals[3]?).map (·.type) = some 91 := by kernel_rfl
theorem t_errArg : (Tryd.prog.globals[0]?).map (·.type) = some 50 := by kernel_rfl
theorem t_errBits : (Tryd.prog.globals[1]?).map (·.type) = some 50 := by kernel_rfl
theorem t_errPlace : (Tryd.prog.globals[2]?).map (·.type) = some 50 := by kernel_rfl
abbrev tab : List Value := (List.range 32).map fun j => .int .u8 (Lib.deBruijn32tab.getD j 0)
theorem d_tab : dec Tryd.prog 8 91 Rows.laid_math_bits_deBruijn32tab = some tab := by kernel_rfl
theorem starE : ("*" : String) ++ "errors.errorString" = "*errors.errorString" := by decide
theorem errTypes : ErrTypes Tryd.prog 50 92 where
  i := ⟨_, Tryd.underlying50⟩
  row := fun u h => typeName_ptr_named (nm := "errors.errorString") (by rw [starE]; kernel_rfl) (by kernel_rfl) (by decide) u (by rw [starE]; exact h)
  rest := ⟨_, _, _, Tryd.underlying92, Tryd.underlying117, rfl, rfl, Tryd.underlying9, by kernel_rfl, by kernel_rfl⟩

def pick3 (a0 a1 a2 : Addr) : Nat → Addr
  | 0 => a0
  | 1 => a1
  | _ => a2
theorem G_of_laid {W : World} (h0 : laidMetH Tryd.prog laids W) : ∃ a, G a W := by
  rw [MakeChecks.laidMetH_plain _ _ _ (by kernel_rfl)] at h0
  obtain ⟨a0, c0, t0, e0, b0⟩ := laid_err h0 1 rfl errTypes g_errArg t_errArg
  obtain ⟨a1, c1, t1, e1, b1⟩ := laid_err h0 2 rfl errTypes g_errBits t_errBits
  obtain ⟨a2, c2, t2, e2, b2⟩ := laid_err h0 3 rfl errTypes g_errPlace t_errPlace
  have lt' : ∀ {b o : Nat} {v : Value}, W.cell? ⟨b, o, none⟩ = some v → b < W.heap.size := fun {b o v} h => by
    simp only [World.cell?] at h
    split at h
    · rename_i e; exact (Array.getElem?_eq_some_iff.1 e).1
    · cases h
  have u := fun o => laid_cells h0 0 rfl 8 g_tab t_tab d_tab o
  have n01 := laid_errs_ne h0 1 2 (by decide) rfl rfl errTypes g_errArg t_errArg g_errBits t_errBits e0 e1
  have n02 := laid_errs_ne h0 1 3 (by decide) rfl rfl errTypes g_errArg t_errArg g_errPlace t_errPlace e0 e2
  have n12 := laid_errs_ne h0 2 3 (by decide) rfl rfl errTypes g_errBits t_errBits g_errPlace t_errPlace e1 e2
  refine ⟨pick3 a0 a1 a2, ⟨fun i hi => ?_, fun i hi => ?_, fun i j hi hj hij => ?_, fun i hi => ?_⟩, lt' (u 0), fun j hj => ?_⟩
  · rcases i with _ | _ | _ | i
    · exact lt' e0
    · exact lt' e1
    · exact lt' e2
    · exact absurd (show i + 1 + 1 + 1 < 3 from hi) (by omega)
  · rcases i with _ | _ | _ | i
    · exact e0
    · exact e1
    · exact e2
    · exact absurd (show i + 1 + 1 + 1 < 3 from hi) (by omega)
  · rcases i with _ | _ | _ | i <;> rcases j with _ | _ | _ | j
    all_goals first
      | exact absurd rfl hij
      | exact n01
      | exact n02
      | exact n12
      | exact n01.symm
      | exact n02.symm
      | exact n12.symm
      | (exfalso; have he : esB.length = 3 := rfl; omega)
  · rcases i with _ | _ | _ | i
    · exact ⟨c0, t0, b0⟩
    · exact ⟨c1, t1, b1⟩
    · exact ⟨c2, t2, b2⟩
    · exact absurd (show i + 1 + 1 + 1 < 3 from hi) (by omega)
  · rw [u j]
    simp only [tab, List.getElem?_map, List.getElem?_range hj]
    rfl

section
variable {H : Type} {enc : TypeId × Value → H} {w : World} {base : Nat}
theorem wf_i64 {n : Int} (h : (Lit.int .i64 n).wf = true) : n ≤ 9223372036854775807 := by
  simp [Lit.wf, IntKind.min, IntKind.max, IntKind.signed, IntKind.bits] at h
  omega
theorem wf_u32 {n : Int} (h : (Lit.int .u32 n).wf = true) : 0 ≤ n ∧ n < 4294967296 := by
  simp [Lit.wf, IntKind.min, IntKind.max, IntKind.signed, IntKind.bits] at h
  omega
set_option maxRecDepth 100000 in
/-- An argument's bits, opened: any number of places, any words. -/
theorem open_bits {r : Reach} {b0 : Nat} {v : Value} {d : DataW H} {p : List MemPlace} (hv : Value.okWide Tryd.prog w r b0 24 v) (h : DataW.Trod enc Tryd.prog w base (fun _ => true) true 24 v d p) :
    ∃ (N : Int) (A : Option Addr) (n c : Nat) (ws : List Nat), v = .agg #[.int .i64 N, .slice A n c] ∧ Ag w A n c ws := by
  obtain ⟨v0, v1, y0, y1, k, rfl, rfl, rfl, h0, h1⟩ := Joins.open_agg2 Tryd.underlying24 (by kernel_rfl) (by kernel_rfl) hv h
  obtain ⟨N, e0, _, _⟩ := DataW.trod_int Tryd.underlying3 h0
  simp only [List.cons.injEq, and_true] at e0
  subst e0
  rcases open_ints Tryd.underlying22 Tryd.underlying47 (by kernel_rfl) h1 with ⟨e1, _⟩ | ⟨a, len, cap, zs, e1, _, hlc, hcap, hz, _, hc, hw⟩
  · simp only [List.cons.injEq, and_true] at e1
    subst e1
    exact ⟨N, none, 0, 0, [], rfl, ⟨rfl, (fun x hx => by simp at hx), Nat.le_refl _, (by decide), fun _ => rfl, fun h => absurd h (by decide)⟩⟩
  · simp only [List.cons.injEq, and_true] at e1
    subst e1
    simp only [if_true] at hz
    have hlen : ((zs.take len).map Int.toNat).length = len := by simp; omega
    refine ⟨N, some a, len, cap, (zs.take len).map Int.toNat, rfl, ⟨hlen, fun x hx => ?_, hlc, hcap, (fun h => nomatch h), fun hn => ⟨a, rfl, ?_, fun j hj => ?_⟩⟩⟩
    · obtain ⟨z, hz', rfl⟩ := List.mem_map.1 hx
      have := wf_u32 (hw z (List.mem_of_mem_take hz'))
      omega
    · have hh := hc 0 (by omega)
      simp only [World.cell?] at hh
      split at hh
      · rename_i e
        have := (Array.getElem?_eq_some_iff.1 e).1
        rwa [block_of_add] at this
      · cases hh
    · have hj' : j < zs.length := by omega
      rw [hc j hj']
      have hwf := wf_u32 (hw (zs.getD j 0) (by rw [List.getD_eq_getElem?_getD, List.getElem?_eq_getElem hj']; exact List.getElem_mem hj'))
      have e : (wd ((zs.take len).map Int.toNat) j : Nat) = (zs.getD j 0).toNat := by
        simp only [wd, List.getD_eq_getElem?_getD, List.getElem?_map, List.getElem?_take_of_lt hj, List.getElem?_eq_getElem hj']
        rfl
      show some (Value.int .u32 (zs.getD j 0)) = some (Value.int .u32 ((wd ((zs.take len).map Int.toNat) j : Nat) : Int))
      rw [e]
      congr 2
      omega
end
end Go.Proofs.YtichgkeglgagfaaDoor
