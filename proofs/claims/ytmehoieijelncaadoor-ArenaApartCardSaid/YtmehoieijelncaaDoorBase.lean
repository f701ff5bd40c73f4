/- What the rows of layer 3 share: the package variables as the program's text lays them give what the walks ask; an argument's calls, opened. -/
import Derived.Test.YtmehoieijelncaaDoorCut
import Derived.Test.YtmehoieijelncaaDoorLaid
import Derived.Test.YtmehoieijelncaaDoorRows
import Derived.Carry
import Derived.Deep.Slices
import Derived.ChangeMaps5
import Derived.Lib.SmallJoins
namespace Go.Proofs.YtmehoieijelncaaDoor
open Go.ChangeShapes Go.WideShapes Go.ChangeAt Go.WideMaps Go.WideElems Go.RowKit Go.Deep Go

theorem own : ownKnob Tryd.prog.godebug = none := by kernel_rfl
theorem lays : laidOutB Tryd.prog = true := by kernel_rfl
abbrev laids : List (String × DataW Unit) := [("selion/addr.units", Rows.laid_selion_addr_units), ("selion/addr.errAddr", Rows.laid_selion_addr_errAddr), ("selion/addr.errSize", Rows.laid_selion_addr_errSize), ("selion/addr.errRef", Rows.laid_selion_addr_errRef), ("selion/arena.errNil", Rows.laid_selion_arena_errNil), ("selion/arena.errArg", Rows.laid_selion_arena_errArg), ("selion/arena.errAddr", Rows.laid_selion_arena_errAddr)]
/-- The door's own heap meets the condition. -/
theorem door_met (os : Os) (args : Array Value) : laidMetH Tryd.prog laids ((World.doorLaid Tryd.prog 400 os).forCall (fun _ _ => 0) ⟨#[], args, []⟩).memory :=
  laidMetH_of_parts3 (fuel := 8) (laidMet_of_run' 8 (by kernel_rfl) (by kernel_rfl)) (by kernel_rfl) (by kernel_rfl)
theorem g_units : Tryd.prog.globalNamed "selion/addr.units" = some 4 := by kernel_rfl
theorem g_jAddr : Tryd.prog.globalNamed "selion/addr.errAddr" = some 3 := by kernel_rfl
theorem g_jSize : Tryd.prog.globalNamed "selion/addr.errSize" = some 5 := by kernel_rfl
theorem g_jRef : Tryd.prog.globalNamed "selion/addr.errRef" = some 6 := by kernel_rfl
theorem g_errNil : Tryd.prog.globalNamed "selion/arena.errNil" = some 1 := by kernel_rfl
theorem g_errArg : Tryd.prog.globalNamed "selion/arena.errArg" = some 0 := by kernel_rfl
theorem g_errAddr : Tryd.prog.globalNamed "selion/arena.errAddr" = some 2 := by kernel_rfl
theorem t_units : (Tryd.prog.globals[4]?).map (·.type) = some 86 := by kernel_rfl
theorem t_jAddr : (Tryd.prog.globals[3]?).map (·.type) = some 62 := by kernel_rfl
theorem t_jSize : (Tryd.prog.globals[5]?).map (·.type) = some 62 := by kernel_rfl
theorem t_jRef : (Tryd.prog.globals[6]?).map (·.type) = some 62 := by kernel_rfl
theorem t_errNil : (Tryd.prog.globals[1]?).map (·.type) = some 62 := by kernel_rfl
theorem t_errArg : (Tryd.prog.globals[0]?).map (·.type) = some 62 := by kernel_rfl
theorem t_errAddr : (Tryd.prog.globals[2]?).map (·.type) = some 62 := by kernel_rfl
theorem d_units : dec Tryd.prog 8 86 Rows.laid_selion_addr_units = some [.int .i64 4096, .int .i64 128, .int .i64 1] := by kernel_rfl
theorem starE : ("*" : String) ++ "errors.errorString" = "*errors.errorString" := by decide
theorem errTypes : ErrTypes Tryd.prog 62 113 where
  i := ⟨_, Tryd.underlying62⟩
  row := fun u h => typeName_ptr_named (nm := "errors.errorString") (by rw [starE]; kernel_rfl) (by kernel_rfl) (by decide) u (by rw [starE]; exact h)
  rest := ⟨_, _, _, Tryd.underlying113, Tryd.underlying137, rfl, rfl, Tryd.underlying9, by kernel_rfl, by kernel_rfl⟩
def pick3 (a0 a1 a2 : Addr) : Nat → Addr
  | 0 => a0
  | 1 => a1
  | _ => a2
theorem G_of_laid {W : World} (h0 : laidMetH Tryd.prog laids W) : ∃ a, G a W := by
  rw [MakeChecks.laidMetH_plain _ _ _ (by kernel_rfl)] at h0
  obtain ⟨j0, jc0, jt0, je0, jb0⟩ := laid_err h0 1 rfl errTypes g_jAddr t_jAddr
  obtain ⟨j2, jc2, jt2, je2, jb2⟩ := laid_err h0 2 rfl errTypes g_jSize t_jSize
  obtain ⟨j3, jc3, jt3, je3, jb3⟩ := laid_err h0 3 rfl errTypes g_jRef t_jRef
  obtain ⟨a0, c0, t0, e0, b0⟩ := laid_err h0 4 rfl errTypes g_errNil t_errNil
  obtain ⟨a1, c1, t1, e1, b1⟩ := laid_err h0 5 rfl errTypes g_errArg t_errArg
  obtain ⟨a2, c2, t2, e2, b2⟩ := laid_err h0 6 rfl errTypes g_errAddr t_errAddr
  have lt : ∀ {a : Addr} {c : Array Value} {t : TypeId}, W.heap[a.block]? = some (.cells c t (0, 0)) → a.block < W.heap.size := fun h => (Array.getElem?_eq_some_iff.1 h).1
  have lt' : ∀ {b o : Nat} {v : Value}, W.cell? ⟨b, o, none⟩ = some v → b < W.heap.size := fun {b o v} h => by
    simp only [World.cell?] at h
    split at h
    · rename_i e; exact (Array.getElem?_eq_some_iff.1 e).1
    · cases h
  have u := fun o => laid_cells h0 0 rfl 8 g_units t_units d_units o
  have z0 := lt' je0
  have z2 := lt' je2
  have z3 := lt' je3
  have zu := lt' (u 0)
  have y0 := lt' e0
  have y1 := lt' e1
  have y2 := lt' e2
  have n01 := laid_errs_ne h0 4 5 (by decide) rfl rfl errTypes g_errNil t_errNil g_errArg t_errArg e0 e1
  have n02 := laid_errs_ne h0 4 6 (by decide) rfl rfl errTypes g_errNil t_errNil g_errAddr t_errAddr e0 e2
  have n12 := laid_errs_ne h0 5 6 (by decide) rfl rfl errTypes g_errArg t_errArg g_errAddr t_errAddr e1 e2
  refine ⟨pick3 a0 a1 a2, ⟨fun i hi => ?_, fun i hi => ?_, fun i j hi hj hij => ?_, fun i hi => ?_⟩, j0, j2, j3, ?_⟩
  · rcases i with _ | _ | _ | i
    · exact y0
    · exact y1
    · exact y2
    · exact absurd (show i + 1 + 1 + 1 < 3 from hi) (by omega)
  · rcases i with _ | _ | _ | i
    · exact e0
    · exact e1
    · exact e2
    · exact absurd (show i + 1 + 1 + 1 < 3 from hi) (by omega)
  · rcases i with _ | _ | _ | i <;> rcases j with _ | _ | _ | j
    all_goals first
      | exact absurd rfl hij
      | exact n01
      | exact n02
      | exact n12
      | exact n01.symm
      | exact n02.symm
      | exact n12.symm
      | (exfalso; have he : esA.length = 3 := rfl; omega)
  · rcases i with _ | _ | _ | i
    · exact ⟨c0, t0, b0⟩
    · exact ⟨c1, t1, b1⟩
    · exact ⟨c2, t2, b2⟩
    · exact absurd (show i + 1 + 1 + 1 < 3 from hi) (by omega)
  · exact ⟨by omega, je0, je2, je3, laid_errs_ne h0 1 2 (by decide) rfl rfl errTypes g_jAddr t_jAddr g_jSize t_jSize je0 je2, laid_errs_ne h0 1 3 (by decide) rfl rfl errTypes g_jAddr t_jAddr g_jRef t_jRef je0 je3,
      laid_errs_ne h0 2 3 (by decide) rfl rfl errTypes g_jSize t_jSize g_jRef t_jRef je2 je3, lt jb0, lt jb2, lt jb3, ⟨jc0, jt0, jb0⟩, ⟨jc2, jt2, jb2⟩, ⟨jc3, jt3, jb3⟩, u 0, u 1, u 2⟩

theorem wf_i64 {n : Int} (h : (Lit.int .i64 n).wf = true) : -9223372036854775808 ≤ n ∧ n ≤ 9223372036854775807 := by
  simp [Lit.wf, IntKind.min, IntKind.max, IntKind.signed, IntKind.bits] at h
  omega
theorem wf_u32 {n : Int} (h : (Lit.int .u32 n).wf = true) : 0 ≤ n ∧ n < 4294967296 := by
  simp [Lit.wf, IntKind.min, IntKind.max, IntKind.signed, IntKind.bits] at h
  omega
theorem str_eq (s : ByteArray) : s = ⟨s.data.toList.toArray⟩ := by cases s; simp
section
variable {H : Type} {enc : TypeId × Value → H} {w : World} {base : Nat}
theorem cells_op : Tryd.prog.cellsOf 39 = 5 := by kernel_rfl
set_option maxRecDepth 100000 in
/-- One call of an argument, opened. -/
theorem open_op {fuel : Nat} {cs : List Value} {x : DataW H × List MemPlace} (h : DataW.trod enc Tryd.prog w base (fun _ => true) true fuel 39 cs = some x) : ∃ y : OpR, cs = y.cells.toList ∧ y.v < 4294967296 := by
  obtain ⟨xs, n, _, _, hl, hxl, hf⟩ := DataW.trod_struct Tryd.underlying39 h
  rw [cells_op] at hl
  match xs, hxl, cs, hl with
  | [y0, y1, y2, y3, y4], _, [v0, v1, v2, v3, v4], _ =>
    have g0 := hf 0 _ rfl
    have g1 := hf 1 _ rfl
    have g2 := hf 2 _ rfl
    have g3 := hf 3 _ rfl
    have g4 := hf 4 _ rfl
    have k3 : Tryd.prog.cellsOf 3 = 1 := by kernel_rfl
    have k4 : Tryd.prog.cellsOf 34 = 1 := by kernel_rfl
    have k5 : Tryd.prog.cellsOf 9 = 1 := by kernel_rfl
    simp [k3, k4, k5] at g0 g1 g2 g3 g4
    obtain ⟨n0, e0, _, _⟩ := DataW.trod_int Tryd.underlying3 g0
    obtain ⟨n1, e1, _, _⟩ := DataW.trod_int Tryd.underlying3 g1
    obtain ⟨n2, e2, _, _⟩ := DataW.trod_int Tryd.underlying3 g2
    obtain ⟨n3, e3, _, w3⟩ := DataW.trod_int Tryd.underlying34 g3
    obtain ⟨s, e4, _, _⟩ := DataW.trod_string Tryd.underlying9 g4
    simp only [List.cons.injEq, and_true] at e0 e1 e2 e3 e4
    subst e0 e1 e2 e3 e4
    have hw := wf_u32 w3
    refine ⟨⟨n0, n1, n2, n3.toNat, s.data.toList⟩, ?_, by show n3.toNat < _; omega⟩
    show [Value.int .i64 n0, .int .i64 n1, .int .i64 n2, .int .u32 n3, .string s] = [Value.int .i64 n0, .int .i64 n1, .int .i64 n2, .int .u32 ((n3.toNat : Nat) : Int), .string ⟨s.data.toList.toArray⟩]
    rw [Int.toNat_of_nonneg hw.1, ← str_eq]
set_option maxRecDepth 100000 in
/-- An argument's calls, opened. -/
theorem open_ops {r : Reach} {b0 : Nat} {v : Value} {d : DataW H} {p : List MemPlace} (hv : Value.okWide Tryd.prog w r b0 22 v) (h : DataW.Trod enc Tryd.prog w base (fun _ => true) true 22 v d p) :
    ∃ (A : Option Addr) (n c : Nat) (xs : List OpR), v = .slice A n c ∧ OpsAt w A n xs := by
  obtain ⟨A, n, c, rfl⟩ := okWide_slice Tryd.underlying22 hv
  obtain ⟨fuel, hf⟩ := h
  rcases open_slice Tryd.underlying22 hf with ⟨hcs, _⟩ | ⟨ad, len, cap, m, k, D, Pl, hcs, _, hl, _, hm, _, hx⟩
  · simp [Value.cells] at hcs
    obtain ⟨rfl, rfl, rfl⟩ := hcs
    exact ⟨none, 0, 0, [], rfl, rfl, fun x hx => by simp at hx, fun h => absurd h (by decide)⟩
  · simp [Value.cells] at hcs
    obtain ⟨rfl, rfl, rfl⟩ := hcs
    simp only [if_true] at hm
    obtain ⟨Y, hY⟩ := choose_lt (n := n) (p := fun i (y : OpR) => y.v < 4294967296 ∧ ∀ j, j < 5 → w.cell? (ad.add (i * 5 + j)) = y.cells[j]?) (fun i hi => by
      obtain ⟨cs', h1, h2⟩ := hx i (by omega)
      rw [cells_op] at h1
      obtain ⟨y, rfl, hy⟩ := open_op h2
      obtain ⟨_, _, hcell⟩ := World.cells?_some h1
      refine ⟨y, hy, fun j hj => ?_⟩
      rw [← add_add, hcell j hj]
      simp)
    refine ⟨some ad, n, c, (List.range n).map Y, rfl, by simp, fun x hx => ?_, fun hn => ⟨ad, rfl, ?_, fun i j hi hj => ?_⟩⟩
    · obtain ⟨i, hi, rfl⟩ := List.mem_map.1 hx
      exact (hY i (by simpa using hi)).1
    · have hh := (hY 0 hn).2 0 (by decide)
      simp only [World.cell?] at hh
      split at hh
      · rename_i e
        have := (Array.getElem?_eq_some_iff.1 e).1
        rwa [block_of_add] at this
      · simp [OpR.cells] at hh
    · rw [(hY i hi).2 j hj, List.getD, List.getElem?_map, List.getElem?_range hi]
      rfl
end
end Go.Proofs.YtmehoieijelncaaDoor
