/- What the rows of layer 6 share: an argument that is a head, opened; the package variables as the program's text lays them (made by gen_base.py). -/
import Derived.Test.YtfpefffgegphnaaDoorEnvH
import Derived.Test.YtfpefffgegphnaaDoorLaid
import Derived.Test.YtfpefffgegphnaaDoorRows
import Derived.Carry
import Derived.Deep.Slices
import Derived.ChangeMaps5
import Derived.Lib.SmallJoins
namespace Go.Proofs.YtfpefffgegphnaaDoor
open Go.ChangeShapes Go.WideShapes Go.ChangeAt Go.WideMaps Go.WideElems Go.RowKit Go.Deep Go

theorem own : ownKnob Tryd.prog.godebug = none := by kernel_rfl
theorem lays : laidOutB Tryd.prog = true := by kernel_rfl
abbrev laids : List (String × DataW Unit) := [("selion/arena.errNil", Rows.laid_selion_arena_errNil), ("selion/arena.errArg", Rows.laid_selion_arena_errArg), ("selion/arena.errAddr", Rows.laid_selion_arena_errAddr), ("selion/head.fields", Rows.laid_selion_head_fields), ("selion/head.errNil", Rows.laid_selion_head_errNil), ("selion/head.errHead", Rows.laid_selion_head_errHead), ("selion/head.errAddr", Rows.laid_selion_head_errAddr)]
abbrev laidsT : List (String × DataW Unit) := [("selion/addr.units", Rows.laid_selion_addr_units), ("selion/addr.errAddr", Rows.laid_selion_addr_errAddr), ("selion/addr.errSize", Rows.laid_selion_addr_errSize), ("selion/addr.errRef", Rows.laid_selion_addr_errRef), ("selion/arena.errNil", Rows.laid_selion_arena_errNil), ("selion/arena.errArg", Rows.laid_selion_arena_errArg), ("selion/arena.errAddr", Rows.laid_selion_arena_errAddr), ("selion/head.fields", Rows.laid_selion_head_fields), ("selion/head.errNil", Rows.laid_selion_head_errNil), ("selion/head.errHead", Rows.laid_selion_head_errHead), ("selion/head.errAddr", Rows.laid_selion_head_errAddr)]
/-- The door's own heap meets the condition. -/
theorem door_met (os : Os) (args : Array Value) : laidMetH Tryd.prog laids ((World.doorLaid Tryd.prog 400 os).forCall (fun _ _ => 0) ⟨#[], args, []⟩).memory :=
  laidMetH_of_parts3 (fuel := 8) (laidMet_of_run' 8 (by kernel_rfl) (by kernel_rfl)) (by kernel_rfl) (by kernel_rfl)
/-- The door's own heap meets the condition. -/
theorem door_metT (os : Os) (args : Array Value) : laidMetH Tryd.prog laidsT ((World.doorLaid Tryd.prog 400 os).forCall (fun _ _ => 0) ⟨#[], args, []⟩).memory :=
  laidMetH_of_parts3 (fuel := 8) (laidMet_of_run' 8 (by kernel_rfl) (by kernel_rfl)) (by kernel_rfl) (by kernel_rfl)
theorem g_aNil : Tryd.prog.globalNamed "selion/arena.errNil" = some 4 := by kernel_rfl
theorem t_aNil : (Tryd.prog.globals[4]?).map (·.type) = some 57 := by kernel_rfl
theorem g_aArg : Tryd.prog.globalNamed "selion/arena.errArg" = some 3 := by kernel_rfl
theorem t_aArg : (Tryd.prog.globals[3]?).map (·.type) = some 57 := by kernel_rfl
theorem g_aAddr : Tryd.prog.globalNamed "selion/arena.errAddr" = some 5 := by kernel_rfl
theorem t_aAddr : (Tryd.prog.globals[5]?).map (·.type) = some 57 := by kernel_rfl
theorem g_hNil : Tryd.prog.globalNamed "selion/head.errNil" = some 0 := by kernel_rfl
theorem t_hNil : (Tryd.prog.globals[0]?).map (·.type) = some 57 := by kernel_rfl
theorem g_hHead : Tryd.prog.globalNamed "selion/head.errHead" = some 1 := by kernel_rfl
theorem t_hHead : (Tryd.prog.globals[1]?).map (·.type) = some 57 := by kernel_rfl
theorem g_hAddr : Tryd.prog.globalNamed "selion/head.errAddr" = some 2 := by kernel_rfl
theorem t_hAddr : (Tryd.prog.globals[2]?).map (·.type) = some 57 := by kernel_rfl
theorem g_jAddr : Tryd.prog.globalNamed "selion/addr.errAddr" = some 7 := by kernel_rfl
theorem t_jAddr : (Tryd.prog.globals[7]?).map (·.type) = some 57 := by kernel_rfl
theorem g_jSize : Tryd.prog.globalNamed "selion/addr.errSize" = some 9 := by kernel_rfl
theorem t_jSize : (Tryd.prog.globals[9]?).map (·.type) = some 57 := by kernel_rfl
theorem g_jRef : Tryd.prog.globalNamed "selion/addr.errRef" = some 10 := by kernel_rfl
theorem t_jRef : (Tryd.prog.globals[10]?).map (·.type) = some 57 := by kernel_rfl
theorem g_units : Tryd.prog.globalNamed "selion/addr.units" = some 8 := by kernel_rfl
theorem t_units : (Tryd.prog.globals[8]?).map (·.type) = some 98 := by kernel_rfl
theorem d_units : dec Tryd.prog 8 98 Rows.laid_selion_addr_units = some [.int .i64 4096, .int .i64 128, .int .i64 1] := by kernel_rfl
theorem g_fields : Tryd.prog.globalNamed "selion/head.fields" = some 6 := by kernel_rfl
theorem t_fields : (Tryd.prog.globals[6]?).map (·.type) = some 116 := by kernel_rfl
theorem d_fields : dec Tryd.prog 8 116 Rows.laid_selion_head_fields = some H.ftab.toList := by kernel_rfl
theorem starE : ("*" : String) ++ "errors.errorString" = "*errors.errorString" := by decide
theorem errTypes : ErrTypes Tryd.prog 57 124 where
  i := ⟨_, Tryd.underlying57⟩
  row := fun u h => typeName_ptr_named (nm := "errors.errorString") (by rw [starE]; kernel_rfl) (by kernel_rfl) (by decide) u (by rw [starE]; exact h)
  rest := ⟨_, _, _, Tryd.underlying124, Tryd.underlying149, rfl, rfl, Tryd.underlying9, by kernel_rfl, by kernel_rfl⟩
def pick3 (a0 a1 a2 : Addr) : Nat → Addr
  | 0 => a0
  | 1 => a1
  | _ => a2
theorem lt_of_cell {W : World} {b o : Nat} {v : Value} (h : W.cell? ⟨b, o, none⟩ = some v) : b < W.heap.size := by
  simp only [World.cell?] at h
  split at h
  · rename_i e; exact (Array.getElem?_eq_some_iff.1 e).1
  · cases h
theorem errs3 {es : List Nat} {e0 e1 e2 : Nat} (he : es = [e0, e1, e2]) {W : World} {a0 a1 a2 : Addr} (c0 : W.cell? ⟨e0, 0, none⟩ = some (.iface 124 (.pointer (some a0)))) (c1 : W.cell? ⟨e1, 0, none⟩ = some (.iface 124 (.pointer (some a1)))) (c2 : W.cell? ⟨e2, 0, none⟩ = some (.iface 124 (.pointer (some a2))))
    (n01 : a0 ≠ a1) (n02 : a0 ≠ a2) (n12 : a1 ≠ a2) (r0 : ∃ ca ta, W.heap[a0.block]? = some (.cells ca ta (0, 0))) (r1 : ∃ ca ta, W.heap[a1.block]? = some (.cells ca ta (0, 0))) (r2 : ∃ ca ta, W.heap[a2.block]? = some (.cells ca ta (0, 0))) : Errs es (pick3 a0 a1 a2) W := by
  subst he
  refine ⟨fun i hi => ?_, fun i hi => ?_, fun i j hi hj hij => ?_, fun i hi => ?_⟩
  · rcases i with _ | _ | _ | i
    · exact lt_of_cell c0
    · exact lt_of_cell c1
    · exact lt_of_cell c2
    · exact absurd (show i + 1 + 1 + 1 < 3 from hi) (by omega)
  · rcases i with _ | _ | _ | i
    · exact c0
    · exact c1
    · exact c2
    · exact absurd (show i + 1 + 1 + 1 < 3 from hi) (by omega)
  · rcases i with _ | _ | _ | i <;> rcases j with _ | _ | _ | j
    all_goals first
      | exact absurd rfl hij
      | exact n01
      | exact n02
      | exact n12
      | exact n01.symm
      | exact n02.symm
      | exact n12.symm
      | (exfalso; have he : [e0, e1, e2].length = 3 := rfl; omega)
  · rcases i with _ | _ | _ | i
    · exact r0
    · exact r1
    · exact r2
    · exact absurd (show i + 1 + 1 + 1 < 3 from hi) (by omega)
theorem G_of_laid {W : World} (h0 : laidMetH Tryd.prog laids W) : ∃ a b, H.G a b W := by
  rw [MakeChecks.laidMetH_plain _ _ _ (by kernel_rfl)] at h0
  obtain ⟨aNil, caNil, yaNil, eaNil, baNil⟩ := laid_err h0 0 rfl errTypes g_aNil t_aNil
  obtain ⟨aArg, caArg, yaArg, eaArg, baArg⟩ := laid_err h0 1 rfl errTypes g_aArg t_aArg
  obtain ⟨aAddr, caAddr, yaAddr, eaAddr, baAddr⟩ := laid_err h0 2 rfl errTypes g_aAddr t_aAddr
  obtain ⟨hNil, chNil, yhNil, ehNil, bhNil⟩ := laid_err h0 4 rfl errTypes g_hNil t_hNil
  obtain ⟨hHead, chHead, yhHead, ehHead, bhHead⟩ := laid_err h0 5 rfl errTypes g_hHead t_hHead
  obtain ⟨hAddr, chAddr, yhAddr, ehAddr, bhAddr⟩ := laid_err h0 6 rfl errTypes g_hAddr t_hAddr
  have f := fun o => laid_cells h0 3 rfl 8 g_fields t_fields d_fields o
  have hA : Errs esA (pick3 aNil aArg aAddr) W := errs3 rfl eaNil eaArg eaAddr (laid_errs_ne h0 0 1 (by decide) rfl rfl errTypes g_aNil t_aNil g_aArg t_aArg eaNil eaArg) (laid_errs_ne h0 0 2 (by decide) rfl rfl errTypes g_aNil t_aNil g_aAddr t_aAddr eaNil eaAddr) (laid_errs_ne h0 1 2 (by decide) rfl rfl errTypes g_aArg t_aArg g_aAddr t_aAddr eaArg eaAddr) ⟨_, _, baNil⟩ ⟨_, _, baArg⟩ ⟨_, _, baAddr⟩
  have hH : Errs H.esH (pick3 hNil hHead hAddr) W := errs3 rfl ehNil ehHead ehAddr (laid_errs_ne h0 4 5 (by decide) rfl rfl errTypes g_hNil t_hNil g_hHead t_hHead ehNil ehHead) (laid_errs_ne h0 4 6 (by decide) rfl rfl errTypes g_hNil t_hNil g_hAddr t_hAddr ehNil ehAddr) (laid_errs_ne h0 5 6 (by decide) rfl rfl errTypes g_hHead t_hHead g_hAddr t_hAddr ehHead ehAddr) ⟨_, _, bhNil⟩ ⟨_, _, bhHead⟩ ⟨_, _, bhAddr⟩
  have hF : H.FTab W := ⟨lt_of_cell (f 0), fun i hi => by have := f i; rw [this]; simp⟩
  exact ⟨_, _, ⟨hA⟩, hH, hF⟩
theorem G_of_laidT {W : World} (h0 : laidMetH Tryd.prog laidsT W) : ∃ a b, H.G a b W ∧ JG W := by
  rw [MakeChecks.laidMetH_plain _ _ _ (by kernel_rfl)] at h0
  obtain ⟨aNil, caNil, yaNil, eaNil, baNil⟩ := laid_err h0 4 rfl errTypes g_aNil t_aNil
  obtain ⟨aArg, caArg, yaArg, eaArg, baArg⟩ := laid_err h0 5 rfl errTypes g_aArg t_aArg
  obtain ⟨aAddr, caAddr, yaAddr, eaAddr, baAddr⟩ := laid_err h0 6 rfl errTypes g_aAddr t_aAddr
  obtain ⟨hNil, chNil, yhNil, ehNil, bhNil⟩ := laid_err h0 8 rfl errTypes g_hNil t_hNil
  obtain ⟨hHead, chHead, yhHead, ehHead, bhHead⟩ := laid_err h0 9 rfl errTypes g_hHead t_hHead
  obtain ⟨hAddr, chAddr, yhAddr, ehAddr, bhAddr⟩ := laid_err h0 10 rfl errTypes g_hAddr t_hAddr
  obtain ⟨jAddr, cjAddr, yjAddr, ejAddr, bjAddr⟩ := laid_err h0 1 rfl errTypes g_jAddr t_jAddr
  obtain ⟨jSize, cjSize, yjSize, ejSize, bjSize⟩ := laid_err h0 2 rfl errTypes g_jSize t_jSize
  obtain ⟨jRef, cjRef, yjRef, ejRef, bjRef⟩ := laid_err h0 3 rfl errTypes g_jRef t_jRef
  have f := fun o => laid_cells h0 7 rfl 8 g_fields t_fields d_fields o
  have hA : Errs esA (pick3 aNil aArg aAddr) W := errs3 rfl eaNil eaArg eaAddr (laid_errs_ne h0 4 5 (by decide) rfl rfl errTypes g_aNil t_aNil g_aArg t_aArg eaNil eaArg) (laid_errs_ne h0 4 6 (by decide) rfl rfl errTypes g_aNil t_aNil g_aAddr t_aAddr eaNil eaAddr) (laid_errs_ne h0 5 6 (by decide) rfl rfl errTypes g_aArg t_aArg g_aAddr t_aAddr eaArg eaAddr) ⟨_, _, baNil⟩ ⟨_, _, baArg⟩ ⟨_, _, baAddr⟩
  have hH : Errs H.esH (pick3 hNil hHead hAddr) W := errs3 rfl ehNil ehHead ehAddr (laid_errs_ne h0 8 9 (by decide) rfl rfl errTypes g_hNil t_hNil g_hHead t_hHead ehNil ehHead) (laid_errs_ne h0 8 10 (by decide) rfl rfl errTypes g_hNil t_hNil g_hAddr t_hAddr ehNil ehAddr) (laid_errs_ne h0 9 10 (by decide) rfl rfl errTypes g_hHead t_hHead g_hAddr t_hAddr ehHead ehAddr) ⟨_, _, bhNil⟩ ⟨_, _, bhHead⟩ ⟨_, _, bhAddr⟩
  have hF : H.FTab W := ⟨lt_of_cell (f 0), fun i hi => by have := f i; rw [this]; simp⟩
  have u := fun o => laid_cells h0 0 rfl 8 g_units t_units d_units o
  have lt : ∀ {a : Addr} {c : Array Value} {t : TypeId}, W.heap[a.block]? = some (.cells c t (0, 0)) → a.block < W.heap.size := fun h => (Array.getElem?_eq_some_iff.1 h).1
  have z0 := lt_of_cell ejAddr
  have z2 := lt_of_cell ejSize
  have z3 := lt_of_cell ejRef
  have zu := lt_of_cell (u 0)
  exact ⟨_, _, ⟨⟨hA⟩, hH, hF⟩, jAddr, jSize, jRef, by omega, ejAddr, ejSize, ejRef, laid_errs_ne h0 1 2 (by decide) rfl rfl errTypes g_jAddr t_jAddr g_jSize t_jSize ejAddr ejSize, laid_errs_ne h0 1 3 (by decide) rfl rfl errTypes g_jAddr t_jAddr g_jRef t_jRef ejAddr ejRef, laid_errs_ne h0 2 3 (by decide) rfl rfl errTypes g_jSize t_jSize g_jRef t_jRef ejSize ejRef, lt bjAddr, lt bjSize, lt bjRef, ⟨_, _, bjAddr⟩, ⟨_, _, bjSize⟩, ⟨_, _, bjRef⟩, u 0, u 1, u 2⟩
theorem wf_i64 {n : Int} (h : (Lit.int .i64 n).wf = true) : -9223372036854775808 ≤ n ∧ n ≤ 9223372036854775807 := by
  simp [Lit.wf, IntKind.min, IntKind.max, IntKind.signed, IntKind.bits] at h
  omega
theorem str_eq (s : ByteArray) : s = ⟨s.data.toList.toArray⟩ := by cases s; simp
section
variable {Hd : Type} {enc : TypeId × Value → Hd} {w : World} {base : Nat}
theorem cells_mark : Tryd.prog.cellsOf 23 = 4 := by kernel_rfl
theorem cells_int : Tryd.prog.cellsOf 3 = 1 := by kernel_rfl
set_option maxRecDepth 100000 in
/-- A head that is an argument, opened. -/
theorem open_mark {r : Reach} {b0 : Nat} {v : Value} {d : DataW Hd} {p : List MemPlace} (hv : Value.okWide Tryd.prog w r b0 23 v) (h : DataW.Trod enc Tryd.prog w base (fun _ => true) true 23 v d p) :
    ∃ m : MkR, v = H.mkV m := by
  obtain ⟨cs, rfl, hsz⟩ := okWide_struct Tryd.underlying23 hv
  obtain ⟨fuel, hf⟩ := h
  obtain ⟨xs, n, _, _, hl, hxl, hg⟩ := DataW.trod_struct Tryd.underlying23 hf
  rw [cells_mark] at hsz
  obtain ⟨v0, v1, v2, v3, rfl⟩ : ∃ v0 v1 v2 v3, cs = #[v0, v1, v2, v3] := by
    obtain ⟨L⟩ := cs
    match L, hsz with
    | [v0, v1, v2, v3], _ => exact ⟨v0, v1, v2, v3, rfl⟩
  match xs, hxl with
  | [y0, y1, y2, y3], _ =>
    have g0 := hg 0 _ rfl
    have g1 := hg 1 _ rfl
    have g2 := hg 2 _ rfl
    have g3 := hg 3 _ rfl
    simp [Value.cells, cells_int] at g0 g1 g2 g3
    obtain ⟨n0, e0, _, _⟩ := DataW.trod_int Tryd.underlying3 g0
    obtain ⟨n1, e1, _, _⟩ := DataW.trod_int Tryd.underlying3 g1
    obtain ⟨n2, e2, _, _⟩ := DataW.trod_int Tryd.underlying3 g2
    obtain ⟨n3, e3, _, _⟩ := DataW.trod_int Tryd.underlying3 g3
    simp only [List.cons.injEq, and_true] at e0 e1 e2 e3
    subst e0 e1 e2 e3
    exact ⟨⟨n0, n1, n2, n3⟩, rfl⟩
end
end Go.Proofs.YtfpefffgegphnaaDoor
