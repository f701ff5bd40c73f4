/- bits: what is wrong, and told. -/
import Derived.Test.YtichgkeglgagfaaDoorHas
namespace Go.Proofs.YtichgkeglgagfaaDoor
open Go.RowKit Go
section
variable {a : Nat → Addr}
set_option maxHeartbeats 2000000 in
theorem told_any (ks : List Nat) (b : Nat) (cap : Nat) (w : World) (hG : G a w) (hm : ks.length ≤ 100) (h3 : ∀ k ∈ ks, k ≤ 3)
    (hc : ∀ i, i < ks.length → w.cell? ⟨b, i, none⟩ = some (errV a (ks.getD i 0))) :
    Calls Tryd.prog 34 #[.slice (some ⟨b, 0, none⟩) ks.length cap] w fun e w' => e = .returned (.int .i64 (num (firstK ks))) ∧ w = w' := by
  have H := Lib.hid hG
  clear hG
  have z0 : w.cell? ⟨0, 0, none⟩ = some (.iface 92 (.pointer (some (a 0)))) := H.out.e.c 0 (by decide)
  have z1 : w.cell? ⟨1, 0, none⟩ = some (.iface 92 (.pointer (some (a 1)))) := H.out.e.c 1 (by decide)
  have z2 : w.cell? ⟨2, 0, none⟩ = some (.iface 92 (.pointer (some (a 2)))) := H.out.e.c 2 (by decide)
  have HC := Lib.hid hc
  have H3 := Lib.hid h3
  clear hc h3
  go_enter Tryd.func34, Tryd.ntmps34
  go_wp2
  go_loopg [7] ks.length (fun m i wr => ∃ k : Nat, k + m = ks.length ∧ i = .int .i64 k ∧ firstK ks = firstK (ks.drop k) ∧ w = wr)
  case atStart => exact ⟨0, by omega, rfl, rfl, rfl⟩
  case round =>
    obtain ⟨k, hk, rfl, hf, rfl⟩ := hrel
    by_cases hlt : k < ks.length
    · have hd : ks.drop k = ks.getD k 0 :: ks.drop (k + 1) := by
        rw [List.drop_eq_getElem_cons hlt]; simp [List.getD, hlt]
      have c : w.cell? ⟨b, k, none⟩ = some (errV a (ks.getD k 0)) := HC.out k hlt
      have hq3 : ks.getD k 0 ≤ 3 := H3.out _ (by rw [List.getD_eq_getElem?_getD, List.getElem?_eq_getElem hlt]; exact List.getElem_mem hlt)
      rw [hd] at hf
      generalize ks.getD k 0 = q at *
      have HF := Lib.hid hf
      have I0 := Lib.hid (is_any (es := esB) (a := a) q 0 hq3 (by decide) w H.out.e)
      have I1 := Lib.hid (is_any (es := esB) (a := a) q 1 hq3 (by decide) w H.out.e)
      have I2 := Lib.hid (is_any (es := esB) (a := a) q 2 hq3 (by decide) w H.out.e)
      have h5 : (k : Int) < ks.length := by omega
      clear hf hd
      match q, hq3 with
      | 0, _ =>
        go_wp2_with (go_at_call 53; first | ((with_reducible refine I0.out.mono ?_); rintro e w1 ⟨rfl, rfl⟩) | ((with_reducible refine I1.out.mono ?_); rintro e w1 ⟨rfl, rfl⟩) | ((with_reducible refine I2.out.mono ?_); rintro e w1 ⟨rfl, rfl⟩))
        go_roundg (gk - 1)
        case measure => omega
        case rel => exact ⟨k + 1, by omega, by go_num, HF.out, rfl⟩
      | 1, _ =>
        go_wp2_with (go_at_call 53; first | ((with_reducible refine I0.out.mono ?_); rintro e w1 ⟨rfl, rfl⟩) | ((with_reducible refine I1.out.mono ?_); rintro e w1 ⟨rfl, rfl⟩) | ((with_reducible refine I2.out.mono ?_); rintro e w1 ⟨rfl, rfl⟩))
        go_ret
        exact ⟨ret_int (by rw [HF.out]; rfl), rfl⟩
      | 2, _ =>
        go_wp2_with (go_at_call 53; first | ((with_reducible refine I0.out.mono ?_); rintro e w1 ⟨rfl, rfl⟩) | ((with_reducible refine I1.out.mono ?_); rintro e w1 ⟨rfl, rfl⟩) | ((with_reducible refine I2.out.mono ?_); rintro e w1 ⟨rfl, rfl⟩))
        go_ret
        exact ⟨ret_int (by rw [HF.out]; rfl), rfl⟩
      | 3, _ =>
        go_wp2_with (go_at_call 53; first | ((with_reducible refine I0.out.mono ?_); rintro e w1 ⟨rfl, rfl⟩) | ((with_reducible refine I1.out.mono ?_); rintro e w1 ⟨rfl, rfl⟩) | ((with_reducible refine I2.out.mono ?_); rintro e w1 ⟨rfl, rfl⟩))
        go_ret
        exact ⟨ret_int (by rw [HF.out]; rfl), rfl⟩
    · have hd : ks.drop k = [] := List.drop_eq_nil_of_le (by omega)
      have hz : firstK ks = 0 := by rw [hf, hd]; rfl
      have hZ := Lib.hid hz
      have h5 : ¬ (k : Int) < ks.length := by omega
      clear hz hd hf
      go_wp2
      go_ret
      exact ⟨ret_int (by rw [hZ.out]; rfl), rfl⟩

theorem noCount_any (n : Int) (w : World) (hG : G a w) :
    Calls Tryd.prog 35 #[.int .i64 n] w fun e w' => e = .returned (errV a (codeB (cntB n) 1)) ∧ Ext w w' := by
  have z0 : w.cell? ⟨0, 0, none⟩ = some (.iface 92 (.pointer (some (a 0)))) := hG.e.c 0 (by decide)
  have hx := fun (o : From w) p h => From.cell o p h
  clear hG
  go_enter Tryd.func35, Tryd.ntmps35
  go_wp2
  refine wp_region_on (by kernel_rfl) (by kernel_rfl) ?_
  repeat (go_big_quiet_step ((first | (go_at_call 37; exact on_same (fun W => isCount_any n W) _) | (go_at_call 54; exact on_same (fun W => unless_any _ _ W) _))))
  refine wpQuiet_nil ?_
  intro W hW
  go_wp2
  go_ret
  exact ⟨ret_val (unless_code a _ 0), hW⟩

set_option maxHeartbeats 1000000 in
theorem noBits_any (N : Int) (A : Option Addr) (n c : Nat) (ws : List Nat) (w : World) (h : Bt w A n ws) (hG : G a w) :
    Calls Tryd.prog 45 #[.agg #[.int .i64 N, .slice A n c]] w fun e w' => e = .returned (errV a (codeB (rightB N ws) 2)) ∧ Ext w w' := by
  have E1 : Ext w (w.alloc (.cells #[.int .i64 N, .slice A n c] 24)) := (Ext.refl w).alloc (Nat.le_refl _) _
  have FIN := Lib.hid E1
  have RR := Lib.hid (fun W (hW : Ext (w.alloc (.cells #[.int .i64 N, .slice A n c] 24)) W) => right_any N A n c ws W (h.ext (Ext.trans E1 hW)))
  have hx := fun (o : From (w.alloc (.cells #[.int .i64 N, .slice A n c] 24))) p h => From.cell o p h
  have z1 : (w.alloc (.cells #[.int .i64 N, .slice A n c] 24)).cell? ⟨1, 0, none⟩ = some (.iface 92 (.pointer (some (a 1)))) := (hG.ext E1).e.c 1 (by decide)
  clear hG h E1
  go_enter Tryd.func45, Tryd.ntmps45
  go_wp2
  refine wp_region_on (by kernel_rfl) (by kernel_rfl) ?_
  repeat (go_big_quiet_step ((first | (go_at_call 15; exact on_call RR.out _) | (go_at_call 54; exact on_same (fun W => unless_any _ _ W) _))))
  refine wpQuiet_nil ?_
  intro W hW
  go_wp2
  go_ret
  exact ⟨ret_val (unless_code a _ 1), Ext.trans FIN.out hW⟩

set_option maxHeartbeats 1000000 in
theorem noPlace_any (N i : Int) (s : Value) (A : Option Addr) (n c : Nat) (hs : s = .slice A n c) (w : World) (hG : G a w) :
    Calls Tryd.prog 46 #[.agg #[.int .i64 N, s], .int .i64 i] w fun e w' => e = .returned (errV a (codeB (plB N i) 3)) ∧ Ext w w' := by
  subst hs
  have E1 : Ext w (w.alloc (.cells #[.int .i64 N, .slice A n c] 24)) := (Ext.refl w).alloc (Nat.le_refl _) _
  have FIN := Lib.hid E1
  have RR := Lib.hid (fun W (_ : Ext (w.alloc (.cells #[.int .i64 N, .slice A n c] 24)) W) => place_any N i (.slice A n c) W)
  have hx := fun (o : From (w.alloc (.cells #[.int .i64 N, .slice A n c] 24))) p h => From.cell o p h
  have z1 : (w.alloc (.cells #[.int .i64 N, .slice A n c] 24)).cell? ⟨2, 0, none⟩ = some (.iface 92 (.pointer (some (a 2)))) := (hG.ext E1).e.c 2 (by decide)
  clear hG E1
  go_enter Tryd.func46, Tryd.ntmps46
  go_wp2
  refine wp_region_on (by kernel_rfl) (by kernel_rfl) ?_
  repeat (go_big_quiet_step ((first | (go_at_call 41; exact on_call RR.out _) | (go_at_call 54; exact on_same (fun W => unless_any _ _ W) _))))
  refine wpQuiet_nil ?_
  intro W hW
  go_wp2
  go_ret
  exact ⟨ret_val (unless_code a _ 2), Ext.trans FIN.out hW⟩

def rngB (N f t : Int) : Bool := decide (0 ≤ f) && decide (f ≤ t) && decide (t ≤ N)
set_option maxHeartbeats 1000000 in
theorem noPlaces_any (N f t : Int) (A : Option Addr) (n c : Nat) (w : World) (hG : G a w) :
    Calls Tryd.prog 49 #[.agg #[.int .i64 N, .slice A n c], .int .i64 f, .int .i64 t] w fun e w' => e = .returned (errV a (codeB (rngB N f t) 3)) ∧ Ext w w' := by
  have E1 : Ext w (w.alloc (.cells #[.int .i64 N, .slice A n c] 24)) := (Ext.refl w).alloc (Nat.le_refl _) _
  have FIN := Lib.hid E1
  have z1 : (w.alloc (.cells #[.int .i64 N, .slice A n c] 24)).cell? ⟨2, 0, none⟩ = some (.iface 92 (.pointer (some (a 2)))) := (hG.ext E1).e.c 2 (by decide)
  clear hG E1
  rcases (show f < 0 ∨ (0 ≤ f ∧ t < f) ∨ (0 ≤ f ∧ f ≤ t ∧ N < t) ∨ (0 ≤ f ∧ f ≤ t ∧ t ≤ N) by omega) with h | ⟨h0, h⟩ | ⟨h0, h1, h⟩ | ⟨h0, h1, h⟩
  all_goals
    go_enter Tryd.func49, Tryd.ntmps49
    go_wp2_with (go_at_call 54; refine (unless_any _ _ _).mono ?_; rintro e w1 ⟨rfl, rfl⟩)
    go_ret
    refine ⟨ret_val ?_, FIN.out⟩
  · rw [show rngB N f t = false by simp [rngB]; omega]; rfl
  · rw [show rngB N f t = false by simp [rngB]; omega]; rfl
  · rw [show rngB N f t = decide (t ≤ N) by simp [rngB, h0, h1]]; exact unless_code a _ 2
  · rw [show rngB N f t = true by simp [rngB]; omega]; rfl

set_option maxHeartbeats 1000000 in
theorem notAsMany_any (N M : Int) (A : Option Addr) (n c : Nat) (A' : Option Addr) (n' c' : Nat) (w : World) (hG : G a w) :
    Calls Tryd.prog 51 #[.agg #[.int .i64 N, .slice A n c], .agg #[.int .i64 M, .slice A' n' c']] w fun e w' => e = .returned (errV a (codeB (N == M) 2)) ∧ Ext w w' := by
  have E1 : Ext w ((w.alloc (.cells #[.int .i64 N, .slice A n c] 24)).alloc (.cells #[.int .i64 M, .slice A' n' c'] 24)) := ((Ext.refl w).alloc (Nat.le_refl _) _).alloc (by simp) _
  have FIN := Lib.hid E1
  have z1 : ((w.alloc (.cells #[.int .i64 N, .slice A n c] 24)).alloc (.cells #[.int .i64 M, .slice A' n' c'] 24)).cell? ⟨1, 0, none⟩ = some (.iface 92 (.pointer (some (a 1)))) := (hG.ext E1).e.c 1 (by decide)
  clear hG E1
  go_enter Tryd.func51, Tryd.ntmps51
  go_wp2_with (go_at_call 54; refine (unless_any _ _ _).mono ?_; rintro e w1 ⟨rfl, rfl⟩)
  go_ret
  exact ⟨ret_val (unless_code a _ 1), FIN.out⟩
end
end Go.Proofs.YtichgkeglgagfaaDoor
