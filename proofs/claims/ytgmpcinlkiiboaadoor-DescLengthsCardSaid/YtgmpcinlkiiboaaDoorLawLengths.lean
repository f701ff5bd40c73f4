/- selionlaw04.DescLengths: the walk (made by gen_laws.py). -/
import Derived.Test.YtgmpcinlkiiboaaDoorLaw0
import Derived.Test.YtgmpcinlkiiboaaDoorBytesR
namespace Go.Proofs.YtgmpcinlkiiboaaDoor
open Go.RowKit Go
section
set_option maxHeartbeats 4000000 in
set_option maxRecDepth 100000 in
theorem lengths_walk (A B : Option Addr) (n m c c' : Nat) (s t y : Int) (l r : List Int) (w : World) (hA : Arg w A n c l) (hB : Arg w B m c' r) (hG : G w) :
    Calls Tryd.prog 4 #[.agg #[.int .i64 s, .slice A n c, .int .i64 t, .slice B m c'], .int .i64 y] w fun e w' => e = .returned (.bool true) ∧ Ext w w' := by
  have E1 := ext1 w (.cells #[.int .i64 s, .slice A n c, .int .i64 t, .slice B m c'] 24)
  have HE := Lib.hid E1
  have SH := Lib.hid (fun W (hW : Ext w W) => shown_is W (hG.ext hW))
  have CU := Lib.hid (fun W => cutd_is A B n m c c' s t hA.z hB.z hA.n hB.n hA.c hB.c W)
  have R1 := Lib.hid (fun W (hW : Ext w W) => dbytes_is A B (min n 20) (min m 20) c c' s t y (l.take 20) (r.take 20) (by omega) (by omega) W (hG.ext hW) ((hA.il.take 20).ext hW) ((hB.il.take 20).ext hW))
  have R2 := Lib.hid (fun W (hW : Ext w W) => bytes_is A B (min n 20) (min m 20) c c' s t (l.take 20) (r.take 20) (by omega) (by omega) y W ((hA.il.take 20).ext hW) ((hB.il.take 20).ext hW))
  clear hG hA hB
  generalize min n 20 = n' at *
  generalize min m 20 = m' at *
  generalize bytesV ⟨s, l.take 20, t, r.take 20⟩ y = z1 at *
  generalize bytesE ⟨s, l.take 20, t, r.take 20⟩ y = z2 at *
  go_enter Tryd.func4, Tryd.ntmps4
  go_wp2_with (first | (go_at_call 8; refine (SH.out _ HE.out).mono ?_; rintro e w1 ⟨rfl, k1⟩; obtain ⟨⟨q0, q1, q2, q3⟩, f0, f1, f2, f3⟩ := cells4 (at_new k1)) | (go_at_call 9; refine (CU.out _).mono ?_; rintro e w2 ⟨rfl, k2⟩; have k3 := Ext.trans k1 k2; clear q0 q1 q2 q3 f0 f1 f2 f3 k1 k2; obtain ⟨⟨q0, q1, q2, q3⟩, f0, f1, f2, f3⟩ := cells4 (at_new k3)) | (go_at_call 10; refine (R1.out _ (box_set4 (at_new k3) (Ext.trans HE.out k3) (Nat.le_refl _)).2).mono ?_; rintro e w3 ⟨rfl, k4⟩; have bx := (box_set4 (at_new k3) (Ext.trans HE.out k3) (Nat.le_refl _)).1.ext k4; have kx := Ext.trans (box_set4 (at_new k3) (Ext.trans HE.out k3) (Nat.le_refl _)).2 k4; clear q0 q1 q2 q3 f0 f1 f2 f3 k3 k4; obtain ⟨⟨q0, q1, q2, q3⟩, f0, f1, f2, f3⟩ := cells4 bx) | (go_at_call 11; refine (R2.out _ kx).mono ?_; rintro e w3 ⟨rfl, k4⟩; replace bx := bx.ext k4; replace kx := Ext.trans kx k4; clear q0 q1 q2 q3 f0 f1 f2 f3 k4; obtain ⟨⟨q0, q1, q2, q3⟩, f0, f1, f2, f3⟩ := cells4 bx))
  go_ret
  exact ⟨rfl, kx⟩
end
end Go.Proofs.YtgmpcinlkiiboaaDoor
