/- What the rows of layer 5 share: arguments opened; the package variables' names and types; the handle of a type (made by gen_base.py). -/
import Derived.Test.YtopgbggighaknaaGreatDoorBox5
import Derived.Test.YtopgbggighaknaaGreatDoorM24
import Derived.Test.YtopgbggighaknaaGreatDoorRows
import Derived.Carry
import Derived.Deep.Slices
import Derived.ChangeMaps5
import Derived.Lib.SmallJoins
import Derived.Lib.LaidTab
namespace Go.Proofs.YtopgbggighaknaaGreatDoor
open Go.ChangeShapes Go.WideShapes Go.ChangeAt Go.WideMaps Go.WideElems Go.RowKit Go.Deep Go

theorem own : ownKnob Tryz.prog.godebug = none := by kernel_rfl
theorem lays : laidOutB Tryz.prog = true := by kernel_rfl
theorem g_d0 : Tryz.prog.globalNamed "selion/desc.errDesc" = some 5 := by kernel_rfl
theorem t_d0 : (Tryz.prog.globals[5]?).map (·.type) = some 48 := by kernel_rfl
theorem g_d2 : Tryz.prog.globalNamed "selion/desc.errText" = some 7 := by kernel_rfl
theorem t_d2 : (Tryz.prog.globals[7]?).map (·.type) = some 48 := by kernel_rfl
theorem g_k0 : Tryz.prog.globalNamed "selion/kinds.errDesc" = some 2 := by kernel_rfl
theorem t_k0 : (Tryz.prog.globals[2]?).map (·.type) = some 48 := by kernel_rfl
theorem g_k1 : Tryz.prog.globalNamed "selion/kinds.errEnd" = some 6 := by kernel_rfl
theorem t_k1 : (Tryz.prog.globals[6]?).map (·.type) = some 48 := by kernel_rfl
theorem g_k2 : Tryz.prog.globalNamed "selion/kinds.errTwice" = some 1 := by kernel_rfl
theorem t_k2 : (Tryz.prog.globals[1]?).map (·.type) = some 48 := by kernel_rfl
theorem g_k3 : Tryz.prog.globalNamed "selion/kinds.errMany" = some 0 := by kernel_rfl
theorem t_k3 : (Tryz.prog.globals[0]?).map (·.type) = some 48 := by kernel_rfl
theorem g_k4 : Tryz.prog.globalNamed "selion/kinds.errKind" = some 3 := by kernel_rfl
theorem t_k4 : (Tryz.prog.globals[3]?).map (·.type) = some 48 := by kernel_rfl
theorem g_type : Tryz.prog.globalNamed "errors.errorType" = some 4 := by kernel_rfl
theorem starE : ("*" : String) ++ "errors.errorString" = "*errors.errorString" := by decide
theorem errTypes : ErrTypes Tryz.prog 48 160 where
  i := ⟨_, Tryz.underlying48⟩
  row := fun u h => typeName_ptr_named (nm := "errors.errorString") (by rw [starE]; kernel_rfl) (by kernel_rfl) (by decide) u (by rw [starE]; exact h)
  rest := ⟨_, _, _, Tryz.underlying160, Tryz.underlying178, rfl, rfl, Tryz.underlying9, by kernel_rfl, by kernel_rfl⟩
theorem lt_of_cell {W : World} {b o : Nat} {v : Value} (h : W.cell? ⟨b, o, none⟩ = some v) : b < W.heap.size := by
  simp only [World.cell?] at h
  split at h
  · rename_i e; exact (Array.getElem?_eq_some_iff.1 e).1
  · cases h
theorem sizes_ok {s : Nat} (_d0 : 5 < s) (_d2 : 7 < s) (_k0 : 2 < s) (_k1 : 6 < s) (_k2 : 1 < s) (_k3 : 0 < s) (_k4 : 3 < s) (_ty : 4 < s) : 8 ≤ s ∧ 8 ≤ s := by omega
theorem rt_at : (Tryz.prog.cutTypes.find? (·.1 == "internal/reflectlite.rtype")).map (·.2) = some 117 := by kernel_rfl
theorem error_row : ((List.range Tryz.prog.types.size).filter fun t => Tryz.prog.rowNamed t [101, 114, 114, 111, 114]) = [48] := by kernel_rfl
theorem handle_of_laid {W : World} (h : handlesMet Tryz.prog [("errors.errorType", Rows.laid_errors_errorType)] W) : W.cell? ⟨4, 0, none⟩ = some (.iface 117 (.agg #[.pointer (some ⟨12, 48, none⟩)])) := by
  obtain ⟨name, u, ty, e1, e2, e3, e4, e5⟩ := h _ (List.mem_singleton.2 rfl)
  have en : name = [101, 114, 114, 111, 114] := (Option.some.inj e1).symm
  subst en
  obtain rfl := Option.some.inj (rt_at.symm.trans e2)
  have hm : ty ∈ (List.range Tryz.prog.types.size).filter fun t => Tryz.prog.rowNamed t [101, 114, 114, 111, 114] := List.mem_filter.2 ⟨List.mem_range.2 e3, e4⟩
  rw [error_row] at hm
  obtain rfl := List.mem_singleton.1 hm
  have hh : typeHandle Tryz.prog 48 = .pointer (some ⟨12, 48, none⟩) := by kernel_rfl
  rw [hh] at e5
  simpa using World.var?_cell g_type e5 0
theorem laid_tab {P : Program} {W : World} {laid : List (String × DataW Unit)} (h : laidMet P laid W) (i : Nat) {nm : String} {k : IntKind} {zs : List Int} (hi : laid[i]? = some (nm, Lib.tabData k zs)) {g : Nat} {t e : TypeId} {n : Nat}
    (hg : P.globalNamed nm = some g) (hty : (P.globals[g]?).map (·.type) = some t) (ht : P.underlying t = some (.array n e)) (he : P.underlying e = some (.int k)) (hce : P.cellsOf e = 1) (hct : P.cellsOf t = n) : Lib.TabIs P W nm k zs := by
  obtain ⟨ps, hl, _, _⟩ := h
  obtain ⟨qs, ⟨g', t', cs, fuel, p, h1, h2, h3, h4, _⟩, _⟩ := laidVars_at _ _ hl i nm _ hi
  obtain rfl := Option.some.inj (hg.symm.trans h1)
  obtain rfl := Option.some.inj (hty.symm.trans h2)
  unfold Lib.TabIs
  rw [h3, ← Lib.cells_of_tab ht he hce hct h4]
theorem wf_i64 {n : Int} (h : (Lit.int .i64 n).wf = true) : -9223372036854775808 ≤ n ∧ n ≤ 9223372036854775807 := by
  simp [Lit.wf, IntKind.min, IntKind.max, IntKind.signed, IntKind.bits] at h
  omega
theorem str_eq (s : ByteArray) : s = ⟨s.data.toList.toArray⟩ := by cases s; simp
/-- A slice of ints, as an argument has it. -/
structure Arg (w : World) (A : Option Addr) (n c : Nat) (l : List Int) : Prop where
  il : Il w A n l
  z : A = none → n = 0 ∧ c = 0
  n : n ≤ c
  c : c ≤ 9223372036854775807
instance : Inhabited DescR := ⟨⟨0, [], 0, []⟩⟩
section
variable {H : Type} {enc : TypeId × Value → H} {w : World} {base : Nat}
theorem cells_desc : Tryz.prog.cellsOf 25 = 4 := by kernel_rfl
theorem cells_ints : Tryz.prog.cellsOf 23 = 1 := by kernel_rfl
theorem cells_int : Tryz.prog.cellsOf 3 = 1 := by kernel_rfl
set_option maxRecDepth 100000 in
/-- A slice of ints, opened. -/
theorem open_ints {fuel : Nat} {v : Value} {x : DataW H × List MemPlace} (h : DataW.trod enc Tryz.prog w base (fun _ => true) true fuel 23 [v] = some x) : ∃ A n c l, v = .slice A n c ∧ Arg w A n c l := by
  rcases open_slice1 Tryz.underlying23 cells_int h with ⟨hcs, _⟩ | ⟨ad, len, cap, m, k, V, D, Pl, hcs, _, hl, hc, hm, _, hx⟩
  · simp only [List.cons.injEq, and_true] at hcs
    subst hcs
    exact ⟨none, 0, 0, [], rfl, ⟨rfl, fun h => absurd h (by decide)⟩, fun _ => ⟨rfl, rfl⟩, Nat.le_refl _, by decide⟩
  · simp only [List.cons.injEq, and_true] at hcs
    subst hcs
    simp only [if_true] at hm
    obtain ⟨Z, hZ⟩ := choose_lt (n := len) (p := fun i (z : Int) => w.cell? (ad.add i) = some (.int .i64 z)) (fun i hi => by
      obtain ⟨h1, h2⟩ := hx i (by omega)
      obtain ⟨z, e, _, _⟩ := DataW.trod_int Tryz.underlying3 h2
      simp only [List.cons.injEq, and_true] at e
      exact ⟨z, by rw [h1, e]⟩)
    refine ⟨some ad, len, cap, (List.range len).map Z, rfl, ⟨by simp, fun hn => ⟨ad, rfl, ?_, fun j hj => ?_⟩⟩, fun h => (by cases h), hl, by simpa [maxLen] using hc⟩
    · have hh := hZ 0 hn
      simp only [World.cell?] at hh
      split at hh
      · rename_i e
        have := (Array.getElem?_eq_some_iff.1 e).1
        rwa [block_of_add] at this
      · cases hh
    · rw [hZ j hj]
      simp [List.getD, List.getElem?_range hj]
set_option maxRecDepth 100000 in
/-- A descriptor that is an argument, opened. -/
theorem open_desc {r : Reach} {b0 : Nat} {v : Value} {d : DataW H} {p : List MemPlace} (hv : Value.okWide Tryz.prog w r b0 25 v) (h : DataW.Trod enc Tryz.prog w base (fun _ => true) true 25 v d p) :
    ∃ (A B : Option Addr) (n m c c' : Nat) (s t : Int) (l r : List Int), v = .agg #[.int .i64 s, .slice A n c, .int .i64 t, .slice B m c'] ∧ Arg w A n c l ∧ Arg w B m c' r := by
  obtain ⟨cs, rfl, hsz⟩ := okWide_struct Tryz.underlying25 hv
  obtain ⟨fuel, hf⟩ := h
  obtain ⟨xs, n, _, _, hl, hxl, hg⟩ := DataW.trod_struct Tryz.underlying25 hf
  rw [cells_desc] at hsz
  obtain ⟨v0, v1, v2, v3, rfl⟩ : ∃ v0 v1 v2 v3, cs = #[v0, v1, v2, v3] := by
    obtain ⟨L⟩ := cs
    match L, hsz with
    | [v0, v1, v2, v3], _ => exact ⟨v0, v1, v2, v3, rfl⟩
  match xs, hxl with
  | [y0, y1, y2, y3], _ =>
    have g0 := hg 0 _ rfl
    have g1 := hg 1 _ rfl
    have g2 := hg 2 _ rfl
    have g3 := hg 3 _ rfl
    simp [Value.cells, cells_int, cells_ints] at g0 g1 g2 g3
    obtain ⟨s, e0, _, _⟩ := DataW.trod_int Tryz.underlying3 g0
    obtain ⟨A, na, ca, l, rfl, h1⟩ := open_ints g1
    obtain ⟨t, e2, _, _⟩ := DataW.trod_int Tryz.underlying3 g2
    obtain ⟨B, nb, cb, l', rfl, h3⟩ := open_ints g3
    simp only [List.cons.injEq, and_true] at e0 e2
    subst e0 e2
    exact ⟨A, B, na, nb, ca, cb, s, t, l, l', rfl, h1, h3⟩
set_option maxRecDepth 100000 in
/-- A row's cells, opened. -/
theorem open_dn {fuel : Nat} {cs : List Value} {x : DataW H × List MemPlace} (h : DataW.trod enc Tryz.prog w base (fun _ => true) true fuel 25 cs = some x) : ∃ (y : DRow) (d : DescR), cs = y.cells.toList ∧ Dn w y d ∧ Dz y := by
  obtain ⟨xs, n, _, _, hl, hxl, hg⟩ := DataW.trod_struct Tryz.underlying25 h
  rw [cells_desc] at hl
  match xs, hxl, cs, hl with
  | [y0, y1, y2, y3], _, [v0, v1, v2, v3], _ =>
    have g0 := hg 0 _ rfl
    have g1 := hg 1 _ rfl
    have g2 := hg 2 _ rfl
    have g3 := hg 3 _ rfl
    simp [cells_int, cells_ints] at g0 g1 g2 g3
    obtain ⟨s, e0, _, _⟩ := DataW.trod_int Tryz.underlying3 g0
    obtain ⟨A, na, ca, l, rfl, h1⟩ := open_ints g1
    obtain ⟨t, e2, _, _⟩ := DataW.trod_int Tryz.underlying3 g2
    obtain ⟨B, nb, cb, l', rfl, h3⟩ := open_ints g3
    simp only [List.cons.injEq, and_true] at e0 e2
    subst e0 e2
    exact ⟨⟨s, A, na, ca, t, B, nb, cb⟩, ⟨s, l, t, l'⟩, rfl, ⟨rfl, rfl, h1.il, h3.il, h1.n, h3.n, h1.c, h3.c⟩, h1.z, h3.z⟩
set_option maxRecDepth 100000 in
/-- A descriptor that is an argument. -/
theorem open_row {r : Reach} {b0 : Nat} {v : Value} {d : DataW H} {p : List MemPlace} (hv : Value.okWide Tryz.prog w r b0 25 v) (h : DataW.Trod enc Tryz.prog w base (fun _ => true) true 25 v d p) :
    ∃ (y : DRow) (d : DescR), v = .agg y.cells ∧ Dn w y d ∧ Dz y := by
  obtain ⟨A, B, n, m, c, c', s, t, l, r, rfl, h1, h3⟩ := open_desc hv h
  exact ⟨⟨s, A, n, c, t, B, m, c'⟩, ⟨s, l, t, r⟩, rfl, ⟨rfl, rfl, h1.il, h3.il, h1.n, h3.n, h1.c, h3.c⟩, h1.z, h3.z⟩
set_option maxRecDepth 100000 in
/-- A slice of descriptors that is an argument, opened. -/
theorem open_list {r : Reach} {b0 : Nat} {v : Value} {d : DataW H} {p : List MemPlace} (hv : Value.okWide Tryz.prog w r b0 22 v) (h : DataW.Trod enc Tryz.prog w base (fun _ => true) true 22 v d p) :
    ∃ (A : Option Addr) (n c : Nat) (xs : List DRow) (L : List DescR), v = .slice A n c ∧ Dl w A n xs L ∧ Zs xs := by
  obtain ⟨A, n, c, rfl⟩ := okWide_slice Tryz.underlying22 hv
  obtain ⟨fuel, hf⟩ := h
  rcases open_slice Tryz.underlying22 hf with ⟨hcs, _⟩ | ⟨ad, len, cap, m, k, D, Pl, hcs, _, hl, _, hm, _, hx⟩
  · simp [Value.cells] at hcs
    obtain ⟨rfl, rfl, rfl⟩ := hcs
    exact ⟨none, 0, 0, [], [], rfl, Dl.nil w, fun i x hx => by simp at hx⟩
  · simp [Value.cells] at hcs
    obtain ⟨rfl, rfl, rfl⟩ := hcs
    simp only [if_true] at hm
    obtain ⟨Y, hY⟩ := choose_lt (n := n) (p := fun i (y : DRow × DescR) => (Dn w y.1 y.2 ∧ Dz y.1) ∧ ∀ j, j < 4 → w.cell? (ad.add (i * 4 + j)) = y.1.cells[j]?) (fun i hi => by
      obtain ⟨cs', h1, h2⟩ := hx i (by omega)
      rw [cells_desc] at h1
      obtain ⟨y, d, rfl, hy, hz⟩ := open_dn h2
      obtain ⟨_, _, hcell⟩ := World.cells?_some h1
      refine ⟨(y, d), ⟨hy, hz⟩, fun j hj => ?_⟩
      rw [← add_of_add', hcell j hj]
      simp)
    have hget : ∀ (i : Nat) (x : DRow), ((List.range n).map fun i => (Y i).1)[i]? = some x → i < n ∧ x = (Y i).1 := fun i x hx => by
      rw [List.getElem?_map] at hx
      obtain ⟨y, g1, rfl⟩ := Option.map_eq_some_iff.1 hx
      have hi : i < n := by have := (List.getElem?_eq_some_iff.1 g1).1; simpa using this
      rw [List.getElem?_range hi] at g1
      cases g1
      exact ⟨hi, rfl⟩
    refine ⟨some ad, n, c, (List.range n).map (fun i => (Y i).1), (List.range n).map (fun i => (Y i).2), rfl, ⟨⟨by simp, fun hn => ⟨ad, rfl, ?_, fun i j hi hj => ?_⟩⟩, by simp, fun i x d h1 h2 => ?_⟩, fun i x hx => ?_⟩
    · have hh := (hY 0 hn).2 0 (by decide)
      simp only [World.cell?] at hh
      split at hh
      · rename_i e
        have := (Array.getElem?_eq_some_iff.1 e).1
        rwa [block_of_add] at this
      · simp [DRow.cells] at hh
    · rw [(hY i hi).2 j hj, List.getD, List.getElem?_map, List.getElem?_range hi]
      rfl
    · obtain ⟨hi, rfl⟩ := hget i x h1
      rw [List.getElem?_map, List.getElem?_range hi] at h2
      obtain rfl : (Y i).2 = d := by simpa using h2
      exact (hY i hi).1.1
    · obtain ⟨hi, rfl⟩ := hget i x hx
      exact (hY i hi).1.2
end
end Go.Proofs.YtopgbggighaknaaGreatDoor
