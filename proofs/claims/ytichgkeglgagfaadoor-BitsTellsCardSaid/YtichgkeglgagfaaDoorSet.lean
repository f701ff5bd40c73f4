/- bits: Make, Set, Fill, Either. -/
import Derived.Test.YtichgkeglgagfaaDoorMade2
namespace Go.Proofs.YtichgkeglgagfaaDoor
open Go.RowKit Go
/-- Bits, and no error. -/
def BitsR (w : World) (N : Int) (ws : List Nat) (e : Ending) (w' : World) : Prop :=
  ∃ A n c, e = .returned (.tuple #[.agg #[.int .i64 N, .slice A n c], .int .i64 0]) ∧ Bt w' A n ws ∧ Ext w w'
/-- An error alone. -/
def NoR (w : World) (k : Int) (e : Ending) (w' : World) : Prop := e = .returned (.tuple #[.agg #[.int .i64 0, .slice none 0 0], .int .i64 k]) ∧ Ext w w'
theorem Bt.blk {W : World} {B : Nat} {ws : List Nat} (h : Blk W B (encW ws) 47) (hl : ws.length ≤ 1000) (hw : W32 ws) : Bt W (some ⟨B, 0, none⟩) ws.length ws :=
  ⟨rfl, hw, hl, Rd.blk h _ _ fun j hj => encW_get ws j hj⟩
section
variable {a : Nat → Addr}
theorem told1 (k : Nat) (e : Int) (he : num (firstK [k]) = e) (hk : k ≤ 3) (b : Nat) (t : TypeId) (w : World) (hG : G a w) (hB : Blk w b #[errV a k] t) :
    Calls Tryd.prog 34 #[.slice (some ⟨b, 0, none⟩) 1 1] w fun e' w' => e' = .returned (.int .i64 e) ∧ w = w' := by
  have := told_any (a := a) [k] b 1 w hG (by simp) (by simpa using hk) (by intro i hi; rw [hB.cell]; rcases i with _ | i; rfl; exact absurd hi (by simp))
  rw [he] at this
  exact this
theorem told2 (k1 k2 : Nat) (e : Int) (he : num (firstK [k1, k2]) = e) (h1 : k1 ≤ 3) (h2 : k2 ≤ 3) (b : Nat) (t : TypeId) (w : World) (hG : G a w) (hB : Blk w b #[errV a k1, errV a k2] t) :
    Calls Tryd.prog 34 #[.slice (some ⟨b, 0, none⟩) 2 2] w fun e' w' => e' = .returned (.int .i64 e) ∧ w = w' := by
  have := told_any (a := a) [k1, k2] b 2 w hG (by simp) (by simp [h1, h2]) (by intro i hi; rw [hB.cell]; rcases i with _ | _ | i; rfl; rfl; exact absurd hi (by simp))
  rw [he] at this
  exact this
theorem told3 (k1 k2 k3 : Nat) (e : Int) (he : num (firstK [k1, k2, k3]) = e) (h1 : k1 ≤ 3) (h2 : k2 ≤ 3) (h3 : k3 ≤ 3) (b : Nat) (t : TypeId) (w : World) (hG : G a w) (hB : Blk w b #[errV a k1, errV a k2, errV a k3] t) :
    Calls Tryd.prog 34 #[.slice (some ⟨b, 0, none⟩) 3 3] w fun e' w' => e' = .returned (.int .i64 e) ∧ w = w' := by
  have := told_any (a := a) [k1, k2, k3] b 3 w hG (by simp) (by simp [h1, h2, h3]) (by intro i hi; rw [hB.cell]; rcases i with _ | _ | _ | i; rfl; rfl; rfl; exact absurd hi (by simp))
  rw [he] at this
  exact this
theorem asErr {P : Program} {f : FuncId} {args : Array Value} {W : World} {v : Value} (v' : Value) (hv : v = v') (h : Calls P f args W fun e w' => e = .returned v ∧ Ext W w') : Calls P f args W fun e w' => e = .returned v' ∧ Ext W w' := hv ▸ h
theorem codeB_le (b : Bool) (k : Nat) (h : k ≤ 3) : codeB b k ≤ 3 := by cases b <;> simp [codeB, h]

set_option maxHeartbeats 1000000 in
theorem make_no (n : Int) (h : cntB n = false) (w : World) (hG : G a w) : Calls Tryd.prog 13 #[.int .i64 n] w (NoR w 2) := by
  have E0 := ext1 w (.cells #[.int .i64 0, .slice none 0 0] 24)
  have NC := Lib.hid (fun W (hW : Ext (w.alloc (.cells #[.int .i64 0, .slice none 0 0] 24)) W) => asErr (.iface 92 (.pointer (some (a 0)))) (by rw [h]; rfl) (noCount_any (a := a) n W (hG.ext (Ext.trans E0 hW))))
  have TD := Lib.hid (fun b t W (hW : Ext (w.alloc (.cells #[.int .i64 0, .slice none 0 0] 24)) W) (hB : Blk W b #[errV a 1] t) => (told1 (a := a) 1 2 rfl (by decide) b t W (hG.ext (Ext.trans E0 hW)) hB).mono fun e w' ⟨he, hw⟩ => (⟨he, hw ▸ hW⟩ : _ ∧ Ext (w.alloc (.cells #[.int .i64 0, .slice none 0 0] 24)) w'))
  clear hG h
  go_enter Tryd.func13, Tryd.ntmps13
  go_wp2_with (first | (go_at_call 35; refine (NC.out _ (Ext.refl _)).mono ?_; rintro e w1 ⟨rfl, h1⟩) | (go_at_call 34; refine (TD.out _ _ _ (Ext.trans h1 (ext1 _ _)) (Blk.new _ _ _)).mono ?_; rintro e w2 ⟨rfl, h2⟩; have r0 := (at_new h2).cell 0; have r1 := (at_new h2).cell 1; have q0 := (at_new h2).frozen 0; have q1 := (at_new h2).frozen 1; simp at r0 r1; clear h1))
  obtain ⟨s0, s1, hE⟩ := res_store (u := .int .i64 0) (v := .slice none 0 0) (at_new h2) (Ext.trans E0 h2) (Nat.le_refl _)
  exact bodyPost_ret (v := .tuple #[.agg #[.int .i64 0, .slice none 0 0], .int .i64 2]) (by simp [results, Tryd.results13, go_sem, s0, s1]) rfl ⟨rfl, hE⟩

set_option maxHeartbeats 1000000 in
theorem make_ok (n : Int) (h : cntB n = true) (w : World) (hG : G a w) : Calls Tryd.prog 13 #[.int .i64 n] w (BitsR w n (List.replicate ((n + 31) / 32).toNat 0)) := by
  have hn := h
  simp only [cntB, Bool.and_eq_true, decide_eq_true_eq] at hn
  have E0 := ext1 w (.cells #[.int .i64 0, .slice none 0 0] 24)
  have NC := Lib.hid (fun W (hW : Ext (w.alloc (.cells #[.int .i64 0, .slice none 0 0] 24)) W) => asErr .nilIface (by rw [h]; rfl) (noCount_any (a := a) n W (hG.ext (Ext.trans E0 hW))))
  have TD := Lib.hid (fun b t W (hW : Ext (w.alloc (.cells #[.int .i64 0, .slice none 0 0] 24)) W) (hB : Blk W b #[errV a 0] t) => (told1 (a := a) 0 0 rfl (by decide) b t W (hG.ext (Ext.trans E0 hW)) hB).mono fun e w' ⟨he, hw⟩ => (⟨he, hw ▸ hW⟩ : _ ∧ Ext (w.alloc (.cells #[.int .i64 0, .slice none 0 0] 24)) w'))
  have MD := Lib.hid (fun W => made0_any n hn.1 hn.2 ((n + 31) / 32).toNat (by omega) W)
  have hb : ((n + 31) / 32).toNat ≤ 1000 := by omega
  generalize ((n + 31) / 32).toNat = m at *
  clear hG h hn
  go_enter Tryd.func13, Tryd.ntmps13
  go_wp2_with (first | (go_at_call 35; refine (NC.out _ (Ext.refl _)).mono ?_; rintro e w1 ⟨rfl, h1⟩) | (go_at_call 34; refine (TD.out _ _ _ (Ext.trans h1 (ext1 _ _)) (Blk.new _ _ _)).mono ?_; rintro e w2 ⟨rfl, h2⟩; clear h1) | (go_at_call 36; refine (MD.out _).mono ?_; rintro e w3 ⟨B, rfl, hB, hBB, h3⟩; replace h3 := Ext.trans h2 h3; have hB' := Nat.lt_of_lt_of_le (by have := h2.size; simp at this; omega : w.heap.size < w2.heap.size) hB; have r0 := (at_new h3).cell 0; have r1 := (at_new h3).cell 1; have q0 := (at_new h3).frozen 0; have q1 := (at_new h3).frozen 1; simp at r0 r1; have HX := Lib.hid (And.intro h3 (And.intro hBB hB')); clear h2 h3 hBB hB hB'))
  obtain ⟨h3, hBB, hB'⟩ := HX.out
  obtain ⟨s0, s1, hE⟩ := res_store (u := .int .i64 n) (v := .slice (some ⟨B, 0, none⟩) m m) (at_new h3) (Ext.trans E0 h3) (Nat.le_refl _)
  refine bodyPost_ret (v := .tuple #[.agg #[.int .i64 n, .slice (some ⟨B, 0, none⟩) m m], .int .i64 0]) (by simp [results, Tryd.results13, go_sem, s0, s1]) rfl ⟨_, m, m, rfl, ?_, hE⟩
  have := Bt.blk ((hBB.other ⟨w.heap.size, 0, none⟩ (.int .i64 n) (by show B ≠ w.heap.size; omega)).other ⟨w.heap.size, 1, none⟩ (.slice (some ⟨B, 0, none⟩) m m) (by show B ≠ w.heap.size; omega)) (by simpa using hb) (zeros_W32 m)
  rwa [List.length_replicate] at this
end
end Go.Proofs.YtichgkeglgagfaaDoor
