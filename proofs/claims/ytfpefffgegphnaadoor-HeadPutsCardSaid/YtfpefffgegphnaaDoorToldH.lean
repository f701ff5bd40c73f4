/- head: what is wrong with heads, arenas, addresses. -/
import Derived.Test.YtfpefffgegphnaaDoorEnvH
import Derived.Laws.StructEq
namespace Go.Proofs.YtfpefffgegphnaaDoor
open Go.RowKit Go
namespace H
open HD
theorem eql_mark (m m' : MkR) (w : World) : (binOp .eql 23 (mkV m) (mkV m')).run Tryd.prog w = .ok (.bool (decide (m = m'))) w := by
  obtain ⟨k, l, c, e⟩ := m
  obtain ⟨k', l', c', e'⟩ := m'
  simp only [MkR.mk.injEq]
  simp [go_sem, mkV]
  by_cases h1 : k = k' <;> by_cases h2 : l = l' <;> by_cases h3 : c = c' <;> by_cases h4 : e = e' <;> simp [*]
section
variable {a b : Nat → Addr}
set_option maxHeartbeats 1000000 in
theorem noHead_is (m : MkR) (w : World) (hG : G a b w) :
    Calls Tryd.prog 31 #[mkV m] w fun e w' => e = .returned (errV b (codeB (rightM m) 2)) ∧ Ext w w' := by
  have E1 := ext1 w (.cells (mkC m) 23)
  have C := Lib.hid (fun W (hW : Ext (w.alloc (.cells (mkC m) 23)) W) => nearest_is m W ((hG.ext (Ext.trans E1 hW)).t))
  have z1 : (w.alloc (.cells (mkC m) 23)).cell? ⟨1, 0, none⟩ = some (.iface 124 (.pointer (some (b 1)))) := (hG.ext E1).e.c 1 (by decide)
  have eq := fun W => eql_mark (nearM m) m W
  have hd := Lib.hid (near_dec m)
  have hx := fun (o : From (w.alloc (.cells (mkC m) 23))) p h => From.cell o p h
  have HE := Lib.hid E1
  clear hG E1
  obtain ⟨N, hN⟩ : ∃ N, nearM m = N := ⟨_, rfl⟩
  rw [hN] at C eq hd
  clear hN
  generalize decide (N = m) = q at *
  go_enter Tryd.func31, Tryd.ntmps31
  go_wp2
  refine wp_region_on (by kernel_rfl) (by kernel_rfl) ?_
  repeat (go_big_quiet_step ((first | (go_at_call 48; exact on_call C.out _) | (go_at_call 47; exact on_same (fun W => unless_any _ _ W) _))))
  refine wpQuiet_nil ?_
  intro W hW
  go_wp2
  go_ret
  exact ⟨ret_val (by rw [hd.out]; exact unless_code b _ 1), Ext.trans HE.out hW⟩
theorem eql_txt {X Y : ByteArray} {q : Bool} {x y : List UInt8} (hX : ⟨x.toArray⟩ = X) (hY : ⟨y.toArray⟩ = Y) (hq : decide (x = y) = q) : (X.toList == Y.toList) = q := by
  subst hX; subst hY; subst hq
  rw [ByteArray.toList_eq, ByteArray.toList_eq, Bool.eq_iff_iff]
  simp
set_option maxHeartbeats 1000000 in
theorem notOf_is (m : MkR) (hm : FitM m) (s : List UInt8) (w : World) (hG : G a b w) :
    Calls Tryd.prog 35 #[mkV m, .string ⟨s.toArray⟩] w fun e w' => e = .returned (errV b (codeB (decide (encS m = s)) 2)) ∧ Ext w w' := by
  have E1 := ext1 w (.cells (mkC m) 23)
  have C := Lib.hid (fun W (hW : Ext (w.alloc (.cells (mkC m) 23)) W) => write_is m hm W ((hG.ext (Ext.trans E1 hW)).t))
  have z1 : (w.alloc (.cells (mkC m) 23)).cell? ⟨1, 0, none⟩ = some (.iface 124 (.pointer (some (b 1)))) := (hG.ext E1).e.c 1 (by decide)
  obtain ⟨X, hX⟩ : ∃ X : ByteArray, ⟨(encS m).toArray⟩ = X := ⟨_, rfl⟩
  obtain ⟨Y, hY⟩ : ∃ Y : ByteArray, ⟨s.toArray⟩ = Y := ⟨_, rfl⟩
  obtain ⟨q, hq⟩ : ∃ q, decide (encS m = s) = q := ⟨_, rfl⟩
  have eq := eql_txt hX hY hq
  have hx := fun (o : From (w.alloc (.cells (mkC m) 23))) p h => From.cell o p h
  have HE := Lib.hid E1
  rw [hX] at C
  rw [hY, hq]
  clear hG E1 hX hY hq
  go_enter Tryd.func35, Tryd.ntmps35
  go_wp2
  refine wp_region_on (by kernel_rfl) (by kernel_rfl) ?_
  repeat (go_big_quiet_step ((first | (go_at_call 32; exact on_call C.out _) | (go_at_call 47; exact on_same (fun W => unless_any _ _ W) _))))
  refine wpQuiet_nil ?_
  intro W hW
  go_wp2
  go_ret
  exact ⟨ret_val (unless_code b _ 1), Ext.trans HE.out hW⟩
theorem noGranule_is (x : Int) (w : World) (hG : G a b w) :
    Calls Tryd.prog 39 #[.int .i64 x] w fun e w' => e = .returned (errV b (codeB (x.tmod 8 == 0) 3)) ∧ Ext w w' := by
  have z0 : w.cell? ⟨2, 0, none⟩ = some (.iface 124 (.pointer (some (b 2)))) := hG.e.c 2 (by decide)
  clear hG
  go_enter Tryd.func39, Tryd.ntmps39
  go_wp2_with (go_at_call 47; refine (unless_any _ _ _).mono ?_; rintro e w' ⟨rfl, rfl⟩)
  go_ret
  exact ⟨ret_val (unless_code b _ 2), Ext.refl _⟩
theorem noArena_of (v : Value) (n : Nat) (w : World) (hG : G a b w) (hS : ∀ W, Ext w W → Calls Tryd.prog 28 #[v] W fun e w' => e = .returned (.int .i64 n) ∧ Ext W w') :
    Calls Tryd.prog 38 #[v] w fun e w' => e = .returned (errV b (codeB (decide (0 < n)) 1)) ∧ Ext w w' := by
  have z0 : w.cell? ⟨0, 0, none⟩ = some (.iface 124 (.pointer (some (b 0)))) := hG.e.c 0 (by decide)
  have hx := fun (o : From w) p h => From.cell o p h
  have C := Lib.hid hS
  clear hG hS
  go_enter Tryd.func38, Tryd.ntmps38
  go_wp2
  refine wp_region_on (by kernel_rfl) (by kernel_rfl) ?_
  repeat (go_big_quiet_step ((first | (go_at_call 28; exact on_call C.out _) | (go_at_call 47; exact on_same (fun W => unless_any _ _ W) _))))
  refine wpQuiet_nil ?_
  intro W hW
  go_wp2
  go_ret
  exact ⟨ret_val (by first | exact unless_code b _ 0 | (rw [← unless_code b _ 0]; congr 1; simp)), hW⟩
theorem noArena_nil (w : World) (hG : G a b w) : Calls Tryd.prog 38 #[.pointer none] w fun e w' => e = .returned (errV b 1) ∧ Ext w w' :=
  noArena_of (.pointer none) 0 w hG (fun W hW => size_nil W (hG.ext hW).g)
theorem noArena_ok (p g : Nat) (L : List UInt8) (w : World) (hG : G a b w) (h : Ar w p g L) : Calls Tryd.prog 38 #[ptr p] w fun e w' => e = .returned (errV b 0) ∧ Ext w w' := by
  have := noArena_of (ptr p) L.length w hG (fun W hW => size_any p g L W (hG.ext hW).g (h.ext hW))
  rw [show codeB (decide (0 < L.length)) 1 = 0 by rw [decide_eq_true h.n0]; rfl] at this
  exact this
end
end H
end Go.Proofs.YtfpefffgegphnaaDoor
