/- head: what the package variables hold; unless, told. -/
import Derived.Test.YtfpefffgegphnaaDoorReadH
import Derived.Test.YtfpefffgegphnaaDoorAny
namespace Go.Proofs.YtfpefffgegphnaaDoor
open Go.RowKit Go
namespace H
abbrev esH : List Nat := [0, 1, 2]
def num : Nat → Int
  | 0 => 0
  | 1 => 1
  | 2 => 60
  | _ => 10
/-- What the package variables hold: arena's, head's, the table of fields. -/
structure G (a b : Nat → Addr) (w : World) : Prop where
  g : _root_.Go.Proofs.YtfpefffgegphnaaDoor.G a w
  e : Errs esH b w
  t : FTab w
theorem G.ext {a b : Nat → Addr} {w w' : World} (h : G a b w) (k : Ext w w') : G a b w' := ⟨h.g.ext k, h.e.ext k, h.t.ext k⟩
section
variable {a : Nat → Addr}

theorem unless_any (b : Bool) (v : Value) (w : World) :
    Calls Tryd.prog 47 #[.bool b, v] w fun e w' => e = .returned (unlessV b v) ∧ w = w' := by
  cases b
  · go_enter Tryd.func47, Tryd.ntmps47
    go_wp2
    go_ret
    exact ⟨rfl, rfl⟩
  · go_enter Tryd.func47, Tryd.ntmps47
    go_wp2
    go_ret
    exact ⟨rfl, rfl⟩

set_option maxHeartbeats 2000000 in
theorem told_any (ks : List Nat) (b : Nat) (cap : Nat) (w : World) (hG : Errs esH a w) (hm : ks.length ≤ 100) (h3 : ∀ k ∈ ks, k ≤ 3)
    (hc : ∀ i, i < ks.length → w.cell? ⟨b, i, none⟩ = some (errV a (ks.getD i 0))) :
    Calls Tryd.prog 30 #[.slice (some ⟨b, 0, none⟩) ks.length cap] w fun e w' => e = .returned (.int .i64 (num (firstK ks))) ∧ w = w' := by
  have H := Lib.hid hG
  clear hG
  have z0 : w.cell? ⟨0, 0, none⟩ = some (.iface 124 (.pointer (some (a 0)))) := H.out.c 0 (by decide)
  have z1 : w.cell? ⟨1, 0, none⟩ = some (.iface 124 (.pointer (some (a 1)))) := H.out.c 1 (by decide)
  have z2 : w.cell? ⟨2, 0, none⟩ = some (.iface 124 (.pointer (some (a 2)))) := H.out.c 2 (by decide)
  have HC := Lib.hid hc
  have H3 := Lib.hid h3
  clear hc h3
  go_enter Tryd.func30, Tryd.ntmps30
  go_wp2
  go_loopg [7] ks.length (fun m i wr => ∃ k : Nat, k + m = ks.length ∧ i = .int .i64 k ∧ firstK ks = firstK (ks.drop k) ∧ w = wr)
  case atStart => exact ⟨0, by omega, rfl, rfl, rfl⟩
  case round =>
    obtain ⟨k, hk, rfl, hf, rfl⟩ := hrel
    by_cases hlt : k < ks.length
    · have hd : ks.drop k = ks.getD k 0 :: ks.drop (k + 1) := by
        rw [List.drop_eq_getElem_cons hlt]; simp [List.getD, hlt]
      have c : w.cell? ⟨b, k, none⟩ = some (errV a (ks.getD k 0)) := HC.out k hlt
      have hq3 : ks.getD k 0 ≤ 3 := H3.out _ (by rw [List.getD_eq_getElem?_getD, List.getElem?_eq_getElem hlt]; exact List.getElem_mem hlt)
      rw [hd] at hf
      generalize ks.getD k 0 = q at *
      have HF := Lib.hid hf
      have I0 := Lib.hid (is_any (es := esH) (a := a) q 0 hq3 (by decide) w H.out)
      have I1 := Lib.hid (is_any (es := esH) (a := a) q 1 hq3 (by decide) w H.out)
      have I2 := Lib.hid (is_any (es := esH) (a := a) q 2 hq3 (by decide) w H.out)
      have h5 : (k : Int) < ks.length := by omega
      clear hf hd
      match q, hq3 with
      | 0, _ =>
        go_wp2_with (go_at_call 46; first | ((with_reducible refine I0.out.mono ?_); rintro e w1 ⟨rfl, rfl⟩) | ((with_reducible refine I1.out.mono ?_); rintro e w1 ⟨rfl, rfl⟩) | ((with_reducible refine I2.out.mono ?_); rintro e w1 ⟨rfl, rfl⟩))
        go_roundg (gk - 1)
        case measure => omega
        case rel => exact ⟨k + 1, by omega, by go_num, HF.out, rfl⟩
      | 1, _ =>
        go_wp2_with (go_at_call 46; first | ((with_reducible refine I0.out.mono ?_); rintro e w1 ⟨rfl, rfl⟩) | ((with_reducible refine I1.out.mono ?_); rintro e w1 ⟨rfl, rfl⟩) | ((with_reducible refine I2.out.mono ?_); rintro e w1 ⟨rfl, rfl⟩))
        go_ret
        exact ⟨ret_int (by rw [HF.out]; rfl), rfl⟩
      | 2, _ =>
        go_wp2_with (go_at_call 46; first | ((with_reducible refine I0.out.mono ?_); rintro e w1 ⟨rfl, rfl⟩) | ((with_reducible refine I1.out.mono ?_); rintro e w1 ⟨rfl, rfl⟩) | ((with_reducible refine I2.out.mono ?_); rintro e w1 ⟨rfl, rfl⟩))
        go_ret
        exact ⟨ret_int (by rw [HF.out]; rfl), rfl⟩
      | 3, _ =>
        go_wp2_with (go_at_call 46; first | ((with_reducible refine I0.out.mono ?_); rintro e w1 ⟨rfl, rfl⟩) | ((with_reducible refine I1.out.mono ?_); rintro e w1 ⟨rfl, rfl⟩) | ((with_reducible refine I2.out.mono ?_); rintro e w1 ⟨rfl, rfl⟩))
        go_ret
        exact ⟨ret_int (by rw [HF.out]; rfl), rfl⟩
    · have hd : ks.drop k = [] := List.drop_eq_nil_of_le (by omega)
      have hz : firstK ks = 0 := by rw [hf, hd]; rfl
      have hZ := Lib.hid hz
      have h5 : ¬ (k : Int) < ks.length := by omega
      clear hz hd hf
      go_wp2
      go_ret
      exact ⟨ret_int (by rw [hZ.out]; rfl), rfl⟩


theorem asErr {f : FuncId} {args : Array Value} {k : Nat} {w : World} (v : Value) (hv : errV a k = v) (h : Calls Tryd.prog f args w fun e w' => e = .returned (errV a k) ∧ Ext w w') :
    Calls Tryd.prog f args w fun e w' => e = .returned v ∧ Ext w w' := by rw [hv] at h; exact h
theorem tell1 (k1 : Nat) (h1 : k1 ≤ 3) (k : Int) (hk : num (firstK [k1]) = k) (b : Nat) (t : TypeId) (w : World) (hG : Errs esH a w) (hB : Blk w b #[errV a k1] t) :
    Calls Tryd.prog 30 #[.slice (some ⟨b, 0, none⟩) 1 1] w fun e w' => e = .returned (.int .i64 k) ∧ w = w' := by
  have := told_any (a := a) [k1] b 1 w hG (by simp) (by simp [h1]) (by
    intro i hi; rw [hB.cell]; rcases i with _ | i; rfl; exact absurd hi (by simp))
  rw [hk] at this
  exact this
theorem tell2 (k1 k2 : Nat) (h1 : k1 ≤ 3) (h2 : k2 ≤ 3) (k : Int) (hk : num (firstK [k1, k2]) = k) (b : Nat) (t : TypeId) (w : World) (hG : Errs esH a w) (hB : Blk w b #[errV a k1, errV a k2] t) :
    Calls Tryd.prog 30 #[.slice (some ⟨b, 0, none⟩) 2 2] w fun e w' => e = .returned (.int .i64 k) ∧ w = w' := by
  have := told_any (a := a) [k1, k2] b 2 w hG (by simp) (by simp [h1, h2]) (by
    intro i hi; rw [hB.cell]; rcases i with _ | _ | i; rfl; rfl; exact absurd hi (by simp))
  rw [hk] at this
  exact this
theorem tell3 (k1 k2 k3 : Nat) (h1 : k1 ≤ 3) (h2 : k2 ≤ 3) (h3 : k3 ≤ 3) (k : Int) (hk : num (firstK [k1, k2, k3]) = k) (b : Nat) (t : TypeId) (w : World) (hG : Errs esH a w) (hB : Blk w b #[errV a k1, errV a k2, errV a k3] t) :
    Calls Tryd.prog 30 #[.slice (some ⟨b, 0, none⟩) 3 3] w fun e w' => e = .returned (.int .i64 k) ∧ w = w' := by
  have := told_any (a := a) [k1, k2, k3] b 3 w hG (by simp) (by simp [h1, h2, h3]) (by
    intro i hi; rw [hB.cell]; rcases i with _ | _ | _ | i; rfl; rfl; rfl; exact absurd hi (by simp))
  rw [hk] at this
  exact this

end
end H
end Go.Proofs.YtfpefffgegphnaaDoor
