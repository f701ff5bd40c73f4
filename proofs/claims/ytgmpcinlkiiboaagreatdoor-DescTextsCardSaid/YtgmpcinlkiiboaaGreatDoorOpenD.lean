/- What the rows of layer 4 share: an argument that is a descriptor, opened; the package variables' names and types; the handle of a type. -/
import Derived.Test.YtgmpcinlkiiboaaGreatDoorLaw0
import Derived.Test.YtgmpcinlkiiboaaGreatDoorLaid
import Derived.Test.YtgmpcinlkiiboaaGreatDoorRows
import Derived.Carry
import Derived.Deep.Slices
import Derived.ChangeMaps5
import Derived.Lib.SmallJoins
import Derived.Lib.LaidTab
namespace Go.Proofs.YtgmpcinlkiiboaaGreatDoor
open Go.ChangeShapes Go.WideShapes Go.ChangeAt Go.WideMaps Go.WideElems Go.RowKit Go.Deep Go

theorem own : ownKnob Tryz.prog.godebug = none := by kernel_rfl
theorem lays : laidOutB Tryz.prog = true := by kernel_rfl
theorem g_classes : Tryz.prog.globalNamed "selion/addr.classes" = some 8 := by kernel_rfl
theorem g_jAddr : Tryz.prog.globalNamed "selion/addr.errAddr" = some 5 := by kernel_rfl
theorem g_jSize : Tryz.prog.globalNamed "selion/addr.errSize" = some 4 := by kernel_rfl
theorem g_jRef : Tryz.prog.globalNamed "selion/addr.errRef" = some 6 := by kernel_rfl
theorem g_errDesc : Tryz.prog.globalNamed "selion/desc.errDesc" = some 0 := by kernel_rfl
theorem g_errLen : Tryz.prog.globalNamed "selion/desc.errLen" = some 1 := by kernel_rfl
theorem g_errText : Tryz.prog.globalNamed "selion/desc.errText" = some 3 := by kernel_rfl
theorem g_type : Tryz.prog.globalNamed "errors.errorType" = some 2 := by kernel_rfl
theorem t_classes : (Tryz.prog.globals[8]?).map (·.type) = some 145 := by kernel_rfl
theorem t_jAddr : (Tryz.prog.globals[5]?).map (·.type) = some 43 := by kernel_rfl
theorem t_jSize : (Tryz.prog.globals[4]?).map (·.type) = some 43 := by kernel_rfl
theorem t_jRef : (Tryz.prog.globals[6]?).map (·.type) = some 43 := by kernel_rfl
theorem t_errDesc : (Tryz.prog.globals[0]?).map (·.type) = some 43 := by kernel_rfl
theorem t_errLen : (Tryz.prog.globals[1]?).map (·.type) = some 43 := by kernel_rfl
theorem t_errText : (Tryz.prog.globals[3]?).map (·.type) = some 43 := by kernel_rfl
theorem d_classes : dec Tryz.prog 8 145 Rows.laid_selion_addr_classes = some [.int .i64 1, .int .i64 1, .int .i64 128, .int .i64 2, .int .i64 129, .int .i64 2048, .int .i64 3, .int .i64 2049, .int .i64 131072] := by kernel_rfl
theorem starE : ("*" : String) ++ "errors.errorString" = "*errors.errorString" := by decide
theorem errTypes : ErrTypes Tryz.prog 43 152 where
  i := ⟨_, Tryz.underlying43⟩
  row := fun u h => typeName_ptr_named (nm := "errors.errorString") (by rw [starE]; kernel_rfl) (by kernel_rfl) (by decide) u (by rw [starE]; exact h)
  rest := ⟨_, _, _, Tryz.underlying152, Tryz.underlying170, rfl, rfl, Tryz.underlying9, by kernel_rfl, by kernel_rfl⟩
theorem lt_of_cell {W : World} {b o : Nat} {v : Value} (h : W.cell? ⟨b, o, none⟩ = some v) : b < W.heap.size := by
  simp only [World.cell?] at h
  split at h
  · rename_i e; exact (Array.getElem?_eq_some_iff.1 e).1
  · cases h
theorem sizes_ok {s : Nat} (_y0 : 0 < s) (_y1 : 1 < s) (_y2 : 3 < s) (_y3 : 2 < s) (_z0 : 5 < s) (_z2 : 4 < s) (_z3 : 6 < s) (_zk : 8 < s) : 9 ≤ s := by omega
theorem rt_at : (Tryz.prog.cutTypes.find? (·.1 == "internal/reflectlite.rtype")).map (·.2) = some 108 := by kernel_rfl
theorem one_row : ((List.range Tryz.prog.types.size).filter fun t => Tryz.prog.rowNamed t [101, 114, 114, 111, 114]) = [43] := by kernel_rfl
theorem handle_of_laid {W : World} (h : handlesMet Tryz.prog [("errors.errorType", Rows.laid_errors_errorType)] W) : W.cell? ⟨2, 0, none⟩ = some (.iface 108 (.agg #[.pointer (some ⟨11, 43, none⟩)])) := by
  obtain ⟨name, u, ty, e1, e2, e3, e4, e5⟩ := h _ (List.mem_singleton.2 rfl)
  have en : name = [101, 114, 114, 111, 114] := (Option.some.inj e1).symm
  subst en
  obtain rfl := Option.some.inj (rt_at.symm.trans e2)
  have hm : ty ∈ (List.range Tryz.prog.types.size).filter fun t => Tryz.prog.rowNamed t [101, 114, 114, 111, 114] := List.mem_filter.2 ⟨List.mem_range.2 e3, e4⟩
  rw [one_row] at hm
  obtain rfl := List.mem_singleton.1 hm
  have hh : typeHandle Tryz.prog 43 = .pointer (some ⟨11, 43, none⟩) := by kernel_rfl
  rw [hh] at e5
  simpa using World.var?_cell g_type e5 0
theorem laid_tab {P : Program} {W : World} {laid : List (String × DataW Unit)} (h : laidMet P laid W) (i : Nat) {nm : String} {k : IntKind} {zs : List Int} (hi : laid[i]? = some (nm, Lib.tabData k zs)) {g : Nat} {t e : TypeId} {n : Nat}
    (hg : P.globalNamed nm = some g) (hty : (P.globals[g]?).map (·.type) = some t) (ht : P.underlying t = some (.array n e)) (he : P.underlying e = some (.int k)) (hce : P.cellsOf e = 1) (hct : P.cellsOf t = n) : Lib.TabIs P W nm k zs := by
  obtain ⟨ps, hl, _, _⟩ := h
  obtain ⟨qs, ⟨g', t', cs, fuel, p, h1, h2, h3, h4, _⟩, _⟩ := laidVars_at _ _ hl i nm _ hi
  obtain rfl := Option.some.inj (hg.symm.trans h1)
  obtain rfl := Option.some.inj (hty.symm.trans h2)
  unfold Lib.TabIs
  rw [h3, ← Lib.cells_of_tab ht he hce hct h4]
theorem wf_i64 {n : Int} (h : (Lit.int .i64 n).wf = true) : -9223372036854775808 ≤ n ∧ n ≤ 9223372036854775807 := by
  simp [Lit.wf, IntKind.min, IntKind.max, IntKind.signed, IntKind.bits] at h
  omega
theorem str_eq (s : ByteArray) : s = ⟨s.data.toList.toArray⟩ := by cases s; simp
section
variable {H : Type} {enc : TypeId × Value → H} {w : World} {base : Nat}
theorem cells_desc : Tryz.prog.cellsOf 24 = 4 := by kernel_rfl
theorem cells_ints : Tryz.prog.cellsOf 22 = 1 := by kernel_rfl
theorem cells_int : Tryz.prog.cellsOf 3 = 1 := by kernel_rfl
set_option maxRecDepth 100000 in
/-- A slice of ints, opened. -/
theorem open_ints {fuel : Nat} {v : Value} {x : DataW H × List MemPlace} (h : DataW.trod enc Tryz.prog w base (fun _ => true) true fuel 22 [v] = some x) : ∃ A n c l, v = .slice A n c ∧ Arg w A n c l := by
  rcases open_slice1 Tryz.underlying22 cells_int h with ⟨hcs, _⟩ | ⟨ad, len, cap, m, k, V, D, Pl, hcs, _, hl, hc, hm, _, hx⟩
  · simp only [List.cons.injEq, and_true] at hcs
    subst hcs
    exact ⟨none, 0, 0, [], rfl, ⟨rfl, fun h => absurd h (by decide)⟩, fun _ => ⟨rfl, rfl⟩, Nat.le_refl _, by decide⟩
  · simp only [List.cons.injEq, and_true] at hcs
    subst hcs
    simp only [if_true] at hm
    obtain ⟨Z, hZ⟩ := choose_lt (n := len) (p := fun i (z : Int) => w.cell? (ad.add i) = some (.int .i64 z)) (fun i hi => by
      obtain ⟨h1, h2⟩ := hx i (by omega)
      obtain ⟨z, e, _, _⟩ := DataW.trod_int Tryz.underlying3 h2
      simp only [List.cons.injEq, and_true] at e
      exact ⟨z, by rw [h1, e]⟩)
    refine ⟨some ad, len, cap, (List.range len).map Z, rfl, ⟨by simp, fun hn => ⟨ad, rfl, ?_, fun j hj => ?_⟩⟩, fun h => (by cases h), hl, by simpa [maxLen] using hc⟩
    · have hh := hZ 0 hn
      simp only [World.cell?] at hh
      split at hh
      · rename_i e
        have := (Array.getElem?_eq_some_iff.1 e).1
        rwa [block_of_add] at this
      · cases hh
    · rw [hZ j hj]
      simp [List.getD, List.getElem?_range hj]
set_option maxRecDepth 100000 in
/-- A descriptor that is an argument, opened. -/
theorem open_desc {r : Reach} {b0 : Nat} {v : Value} {d : DataW H} {p : List MemPlace} (hv : Value.okWide Tryz.prog w r b0 24 v) (h : DataW.Trod enc Tryz.prog w base (fun _ => true) true 24 v d p) :
    ∃ (A B : Option Addr) (n m c c' : Nat) (s t : Int) (l r : List Int), v = .agg #[.int .i64 s, .slice A n c, .int .i64 t, .slice B m c'] ∧ Arg w A n c l ∧ Arg w B m c' r := by
  obtain ⟨cs, rfl, hsz⟩ := okWide_struct Tryz.underlying24 hv
  obtain ⟨fuel, hf⟩ := h
  obtain ⟨xs, n, _, _, hl, hxl, hg⟩ := DataW.trod_struct Tryz.underlying24 hf
  rw [cells_desc] at hsz
  obtain ⟨v0, v1, v2, v3, rfl⟩ : ∃ v0 v1 v2 v3, cs = #[v0, v1, v2, v3] := by
    obtain ⟨L⟩ := cs
    match L, hsz with
    | [v0, v1, v2, v3], _ => exact ⟨v0, v1, v2, v3, rfl⟩
  match xs, hxl with
  | [y0, y1, y2, y3], _ =>
    have g0 := hg 0 _ rfl
    have g1 := hg 1 _ rfl
    have g2 := hg 2 _ rfl
    have g3 := hg 3 _ rfl
    simp [Value.cells, cells_int, cells_ints] at g0 g1 g2 g3
    obtain ⟨s, e0, _, _⟩ := DataW.trod_int Tryz.underlying3 g0
    obtain ⟨A, na, ca, l, rfl, h1⟩ := open_ints g1
    obtain ⟨t, e2, _, _⟩ := DataW.trod_int Tryz.underlying3 g2
    obtain ⟨B, nb, cb, l', rfl, h3⟩ := open_ints g3
    simp only [List.cons.injEq, and_true] at e0 e2
    subst e0 e2
    exact ⟨A, B, na, nb, ca, cb, s, t, l, l', rfl, h1, h3⟩
end
end Go.Proofs.YtgmpcinlkiiboaaGreatDoor
