/- arena: Size, outside, part. -/
import Derived.Test.YtfpefffgegphnaaDoorEnv
import Derived.BigQuiet
import Derived.Deep.QuietTactic
import Derived.Deep.LoopGhost
namespace Go.Proofs.YtfpefffgegphnaaDoor
open Go.RowKit Go
section
variable {a : Nat → Addr}

abbrev eN (a : Nat → Addr) : Value := .iface 124 (.pointer (some (a 0)))
abbrev eG (a : Nat → Addr) : Value := .iface 124 (.pointer (some (a 1)))
abbrev eA (a : Nat → Addr) : Value := .iface 124 (.pointer (some (a 2)))
theorem asErr {f : FuncId} {args : Array Value} {k : Nat} {w : World} (v : Value) (hv : errV a k = v) (h : Calls Tryd.prog f args w fun e w' => e = .returned (errV a k) ∧ Ext w w') :
    Calls Tryd.prog f args w fun e w' => e = .returned v ∧ Ext w w' := by rw [hv] at h; exact h
theorem tell1 (k1 : Nat) (h1 : k1 ≤ 3) (k : Int) (hk : num (firstK [k1]) = k) (b : Nat) (t : TypeId) (w : World) (hG : G a w) (hB : Blk w b #[errV a k1] t) :
    Calls Tryd.prog 37 #[.slice (some ⟨b, 0, none⟩) 1 1] w fun e w' => e = .returned (.int .i64 k) ∧ w = w' := by
  have := told_any (a := a) [k1] b 1 w hG (by simp) (by simp [h1]) (by
    intro i hi; rw [hB.cell]; rcases i with _ | i; rfl; exact absurd hi (by simp))
  rw [hk] at this
  exact this
theorem tell2 (k1 k2 : Nat) (h1 : k1 ≤ 3) (h2 : k2 ≤ 3) (k : Int) (hk : num (firstK [k1, k2]) = k) (b : Nat) (t : TypeId) (w : World) (hG : G a w) (hB : Blk w b #[errV a k1, errV a k2] t) :
    Calls Tryd.prog 37 #[.slice (some ⟨b, 0, none⟩) 2 2] w fun e w' => e = .returned (.int .i64 k) ∧ w = w' := by
  have := told_any (a := a) [k1, k2] b 2 w hG (by simp) (by simp [h1, h2]) (by
    intro i hi; rw [hB.cell]; rcases i with _ | _ | i; rfl; rfl; exact absurd hi (by simp))
  rw [hk] at this
  exact this
theorem tell3 (k1 k2 k3 : Nat) (h1 : k1 ≤ 3) (h2 : k2 ≤ 3) (h3 : k3 ≤ 3) (k : Int) (hk : num (firstK [k1, k2, k3]) = k) (b : Nat) (t : TypeId) (w : World) (hG : G a w) (hB : Blk w b #[errV a k1, errV a k2, errV a k3] t) :
    Calls Tryd.prog 37 #[.slice (some ⟨b, 0, none⟩) 3 3] w fun e w' => e = .returned (.int .i64 k) ∧ w = w' := by
  have := told_any (a := a) [k1, k2, k3] b 3 w hG (by simp) (by simp [h1, h2, h3]) (by
    intro i hi; rw [hB.cell]; rcases i with _ | _ | _ | i; rfl; rfl; rfl; exact absurd hi (by simp))
  rw [hk] at this
  exact this

theorem size_any (p g : Nat) (L : List UInt8) (w : World) (hG : G a w) (h : Ar w p g L) :
    Calls Tryd.prog 28 #[ptr p] w fun e w' => e = .returned (.int .i64 L.length) ∧ Ext w w' := by
  have N := Lib.hid (fun W (hW : Ext w W) => asErr (a := a) .nilIface rfl (noArena_ok p g L W (hG.ext hW) (h.ext hW)))
  have T := Lib.hid (fun W (hW : Ext w W) => tell1 (a := a) 0 (by decide) 0 rfl W.heap.size 57 (W.alloc (.cells #[.nilIface] 57)) ((hG.ext hW).ext (ext1 _ _)) (Blk.new _ _ _))
  have C := Lib.hid (fun W (hW : Ext w W) => (h.ext hW).p.cell 0)
  clear hG h
  go_enter Tryd.func28, Tryd.ntmps28
  go_wp2_with (first
    | (go_at_call 40; refine (N.out _ (Ext.refl _)).mono ?_; rintro e w1 ⟨rfl, h1⟩)
    | (go_at_call 37; refine (T.out _ h1).mono ?_; rintro e w2 ⟨rfl, rfl⟩; have hX := Ext.trans h1 (ext1 w1 (.cells #[.nilIface] 57)); have c0 := C.out _ hX; simp only [List.getElem?_toArray, List.getElem?_cons_zero] at c0))
  go_ret
  exact ⟨rfl, hX⟩
theorem size_nil (w : World) (hG : G a w) :
    Calls Tryd.prog 28 #[.pointer none] w fun e w' => e = .returned (.int .i64 0) ∧ Ext w w' := by
  have N := Lib.hid (fun W (hW : Ext w W) => asErr (a := a) (eN a) rfl (noArena_nil W (hG.ext hW)))
  have T := Lib.hid (fun W (hW : Ext w W) => tell1 (a := a) 1 (by decide) 1 rfl W.heap.size 57 (W.alloc (.cells #[eN a] 57)) ((hG.ext hW).ext (ext1 _ _)) (Blk.new _ _ _))
  clear hG
  go_enter Tryd.func28, Tryd.ntmps28
  go_wp2_with (first
    | (go_at_call 40; refine (N.out _ (Ext.refl _)).mono ?_; rintro e w1 ⟨rfl, h1⟩)
    | (go_at_call 37; refine (T.out _ h1).mono ?_; rintro e w2 ⟨rfl, rfl⟩; have hX := Ext.trans h1 (ext1 w1 (.cells #[eN a] 57))))
  go_ret
  exact ⟨rfl, hX⟩

/-- do two parts, one behind the other, lie in n bytes? -/
def inB (n : Nat) (x y : Int) : Bool := decide (0 ≤ x) && decide (x ≤ n) && decide (0 ≤ y) && decide (y ≤ n - x)
theorem inB_yes {n : Nat} {x y : Int} (h : 0 ≤ x ∧ 0 ≤ y ∧ x + y ≤ n) : inB n x y = true := by simp [inB]; omega
theorem inB_no {n : Nat} {x y : Int} (h : ¬ (0 ≤ x ∧ 0 ≤ y ∧ x + y ≤ n)) : inB n x y = false := by
  rw [Bool.eq_false_iff]; intro hh; simp [inB] at hh; omega
/-- outside, of a known size -/
theorem outside_of (v : Value) (n : Nat) (hn : n ≤ 200000) (x y : Int) (b : Nat) (t : TypeId) (w : World) (hG : G a w) (hB : Blk w b #[.int .i64 x, .int .i64 y] t)
    (hS : ∀ W, Ext w W → Calls Tryd.prog 28 #[v] W fun e w' => e = .returned (.int .i64 n) ∧ Ext W w') :
    Calls Tryd.prog 41 #[v, .slice (some ⟨b, 0, none⟩) 2 2] w fun e w' => e = .returned (errV a (codeB (inB n x y) 3)) ∧ Ext w w' := by
  have S := Lib.hid hS
  have E := Lib.hid (fun W (hW : Ext w W) => (hG.ext hW).e.c 2 (by decide))
  have C := Lib.hid (fun W (hW : Ext w W) => (hB.ext hW))
  clear hS hG hB
  have R : ∀ q, inB n x y = q → Calls Tryd.prog 41 #[v, .slice (some ⟨b, 0, none⟩) 2 2] w fun e w' => e = .returned (errV a (codeB q 3)) ∧ Ext w w' := by
    intro q hq
    have n0 : (0 : Int) ≤ n := by omega
    have n1 : (n : Int) ≤ 200000 := by omega
    by_cases hx0 : x < 0
    · obtain rfl : q = false := by rw [← hq]; exact inB_no (by omega)
      clear hq
      go_enter Tryd.func41, Tryd.ntmps41
      go_wp2_with (first
        | (go_at_call 28; refine (S.out _ (Ext.refl _)).mono ?_; rintro e w1 ⟨rfl, h1⟩; have c := C.out _ h1; have c0 := c.cell 0; have c1 := c.cell 1; have z := E.out _ h1; simp only [List.getElem?_toArray, List.getElem?_cons_zero, List.getElem?_cons_succ] at c0 c1; simp only [esA, List.getD_cons_zero, List.getD_cons_succ] at z))
      refine wp_loop_rounds 3 ?_
      rw [rounds_succ]
      go_wp2
      go_ret
      exact ⟨rfl, h1⟩
    · by_cases hx1 : (n : Int) < x
      · obtain rfl : q = false := by rw [← hq]; exact inB_no (by omega)
        clear hq
        go_enter Tryd.func41, Tryd.ntmps41
        go_wp2_with (first
          | (go_at_call 28; refine (S.out _ (Ext.refl _)).mono ?_; rintro e w1 ⟨rfl, h1⟩; have c := C.out _ h1; have c0 := c.cell 0; have c1 := c.cell 1; have z := E.out _ h1; simp only [List.getElem?_toArray, List.getElem?_cons_zero, List.getElem?_cons_succ] at c0 c1; simp only [esA, List.getD_cons_zero, List.getD_cons_succ] at z))
        refine wp_loop_rounds 3 ?_
        rw [rounds_succ]
        go_wp2
        go_ret
        exact ⟨rfl, h1⟩
      · by_cases hy0 : y < 0
        · obtain rfl : q = false := by rw [← hq]; exact inB_no (by omega)
          clear hq
          go_enter Tryd.func41, Tryd.ntmps41
          go_wp2_with (first
            | (go_at_call 28; refine (S.out _ (Ext.refl _)).mono ?_; rintro e w1 ⟨rfl, h1⟩; have c := C.out _ h1; have c0 := c.cell 0; have c1 := c.cell 1; have z := E.out _ h1; simp only [List.getElem?_toArray, List.getElem?_cons_zero, List.getElem?_cons_succ] at c0 c1; simp only [esA, List.getD_cons_zero, List.getD_cons_succ] at z))
          refine wp_loop_rounds 3 ?_
          rw [rounds_succ]
          go_wp2
          rw [rounds_succ]
          go_wp2
          go_ret
          exact ⟨rfl, h1⟩
        · by_cases hy1 : (n : Int) - x < y
          · obtain rfl : q = false := by rw [← hq]; exact inB_no (by omega)
            clear hq
            go_enter Tryd.func41, Tryd.ntmps41
            go_wp2_with (first
              | (go_at_call 28; refine (S.out _ (Ext.refl _)).mono ?_; rintro e w1 ⟨rfl, h1⟩; have c := C.out _ h1; have c0 := c.cell 0; have c1 := c.cell 1; have z := E.out _ h1; simp only [List.getElem?_toArray, List.getElem?_cons_zero, List.getElem?_cons_succ] at c0 c1; simp only [esA, List.getD_cons_zero, List.getD_cons_succ] at z))
            refine wp_loop_rounds 3 ?_
            rw [rounds_succ]
            go_wp2
            rw [rounds_succ]
            go_wp2
            go_ret
            exact ⟨rfl, h1⟩
          · obtain rfl : q = true := by rw [← hq]; exact inB_yes (by omega)
            clear hq
            go_enter Tryd.func41, Tryd.ntmps41
            go_wp2_with (first
              | (go_at_call 28; refine (S.out _ (Ext.refl _)).mono ?_; rintro e w1 ⟨rfl, h1⟩; have c := C.out _ h1; have c0 := c.cell 0; have c1 := c.cell 1; have z := E.out _ h1; simp only [List.getElem?_toArray, List.getElem?_cons_zero, List.getElem?_cons_succ] at c0 c1; simp only [esA, List.getD_cons_zero, List.getD_cons_succ] at z))
            refine wp_loop_rounds 3 ?_
            rw [rounds_succ]
            go_wp2
            rw [rounds_succ]
            go_wp2
            rw [rounds_succ]
            go_wp2
            go_ret
            exact ⟨rfl, h1⟩
  exact R _ rfl

theorem tmod4 (x : Int) : x.tmod 4 = 0 ↔ x % 4 = 0 := by
  rw [← Int.dvd_iff_tmod_eq_zero, Int.dvd_iff_emod_eq_zero]
theorem outside_ok (p g : Nat) (L : List UInt8) (x y : Int) (h : 0 ≤ x ∧ 0 ≤ y ∧ x + y ≤ L.length) (b : Nat) (t : TypeId) (w : World) (hG : G a w) (hA : Ar w p g L) (hB : Blk w b #[.int .i64 x, .int .i64 y] t) :
    Calls Tryd.prog 41 #[ptr p, .slice (some ⟨b, 0, none⟩) 2 2] w fun e w' => e = .returned .nilIface ∧ Ext w w' :=
  asErr (a := a) _ (by rw [inB_yes h]; rfl) (outside_of (a := a) (ptr p) L.length (by have := hA.le; omega) x y b t w hG hB (fun W hW => size_any p g L W (hG.ext hW) (hA.ext hW)))
theorem outside_no (p g : Nat) (L : List UInt8) (x y : Int) (h : ¬ (0 ≤ x ∧ 0 ≤ y ∧ x + y ≤ L.length)) (b : Nat) (t : TypeId) (w : World) (hG : G a w) (hA : Ar w p g L) (hB : Blk w b #[.int .i64 x, .int .i64 y] t) :
    Calls Tryd.prog 41 #[ptr p, .slice (some ⟨b, 0, none⟩) 2 2] w fun e w' => e = .returned (eA a) ∧ Ext w w' :=
  asErr (a := a) _ (by rw [inB_no h]; rfl) (outside_of (a := a) (ptr p) L.length (by have := hA.le; omega) x y b t w hG hB (fun W hW => size_any p g L W (hG.ext hW) (hA.ext hW)))
theorem outside_nil (b : Nat) (t : TypeId) (w : World) (hG : G a w) (hB : Blk w b #[.int .i64 0, .int .i64 0] t) :
    Calls Tryd.prog 41 #[.pointer none, .slice (some ⟨b, 0, none⟩) 2 2] w fun e w' => e = .returned .nilIface ∧ Ext w w' :=
  asErr (a := a) _ rfl (outside_of (a := a) (.pointer none) 0 (by omega) 0 0 b t w hG hB (fun W hW => size_nil W (hG.ext hW)))
theorem part_any (p g : Nat) (L : List UInt8) (x y : Int) (hx : 0 ≤ x ∧ 0 ≤ y ∧ x + y ≤ L.length) (w : World) (h : Ar w p g L) :
    Calls Tryd.prog 42 #[ptr p, .int .i64 x, .int .i64 y] w fun e w' => (∃ q c, e = .returned (.slice q y.toNat c) ∧ (0 < y.toNat → q = some ⟨g, x.toNat, none⟩)) ∧ w = w' := by
  have c0 : w.cell? ⟨p, 0, none⟩ = some (.slice (some ⟨g, 0, none⟩) L.length L.length) := h.p.cell 0
  have hl := h.le
  clear h
  obtain ⟨x, rfl⟩ : ∃ k : Nat, x = k := ⟨x.toNat, by omega⟩
  obtain ⟨y, rfl⟩ : ∃ k : Nat, y = k := ⟨y.toNat, by omega⟩
  have h1 : (x : Int) + y ≤ 131072 := by omega
  by_cases hq : L.length = x
  · obtain rfl : y = 0 := by omega
    go_enter Tryd.func42, Tryd.ntmps42
    go_wp2
    go_ret
    exact ⟨⟨_, _, rfl, fun h => absurd h (Nat.lt_irrefl 0)⟩, rfl⟩
  · have h2 : x + y - x = (y : Int).toNat := by omega
    go_enter Tryd.func42, Tryd.ntmps42
    go_wp2
    go_ret
    exact ⟨⟨_, _, ret_val (by show Value.slice _ (x + y - x) _ = _; rw [h2]; rfl), fun _ => rfl⟩, rfl⟩
end
end Go.Proofs.YtfpefffgegphnaaDoor
