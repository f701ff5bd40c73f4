/- selionlaw04.DescTexts: the walk (made by gen_laws.py). -/
import Derived.Test.YtgmpcinlkiiboaaGreatDoorLaw0
import Derived.Test.YtgmpcinlkiiboaaGreatDoorSameR
import Derived.Test.YtgmpcinlkiiboaaGreatDoorTextLen
import Derived.Test.YtgmpcinlkiiboaaGreatDoorParseD
import Derived.Test.YtgmpcinlkiiboaaGreatDoorPrintD
import Derived.Test.YtgmpcinlkiiboaaGreatDoorPrintR
import Derived.Test.YtgmpcinlkiiboaaGreatDoorParseR
namespace Go.Proofs.YtgmpcinlkiiboaaGreatDoor
open Go.RowKit Go
theorem cells4A {w : World} {R : Nat} {x0 x1 x2 x3 : Value} {t : TypeId} (hB : Blk w R #[x0, x1, x2, x3] t) :
    (∀ o, (w.alloc o).cell? ⟨R, 0, none⟩ = some x0) ∧ (∀ o, (w.alloc o).cell? ⟨R, 1, none⟩ = some x1) ∧ (∀ o, (w.alloc o).cell? ⟨R, 2, none⟩ = some x2) ∧ (∀ o, (w.alloc o).cell? ⟨R, 3, none⟩ = some x3) :=
  ⟨fun o => (cells4 (hB.alloc o)).1.1, fun o => (cells4 (hB.alloc o)).1.2.1, fun o => (cells4 (hB.alloc o)).1.2.2.1, fun o => (cells4 (hB.alloc o)).1.2.2.2⟩
section
set_option maxHeartbeats 8000000 in
set_option maxRecDepth 100000 in
theorem texts_s (A B : Option Addr) (n m c c' : Nat) (s t : Int) (l r : List Int) (S : List UInt8) (w : World) (hA : Arg w A n c l) (hB : Arg w B m c' r) (hG : G w) (hT : HTab w) (bs be : Int) (bp bq : List Int) (hp : parseP (S.take 200) = some ⟨bs, bp, be, bq⟩) :
    Calls Tryz.prog 3 #[.agg #[.int .i64 s, .slice A n c, .int .i64 t, .slice B m c'], tv S] w fun e w' => e = .returned (.bool true) ∧ Ext w w' := by
  have E1 := ext1 w (.cells #[.int .i64 s, .slice A n c, .int .i64 t, .slice B m c'] 24)
  have HE := Lib.hid E1
  have SH := Lib.hid (fun W (hW : Ext w W) => shown_is W (hG.ext hW))
  have CU := Lib.hid (fun W => cutd_is A B n m c c' s t hA.z hB.z hA.n hB.n hA.c hB.c W)
  have P1 := Lib.hid (fun W (hW : Ext w W) => dprint_is A B (min n 20) (min m 20) c c' s t (l.take 20) (r.take 20) (by omega) (by omega) W (hG.ext hW) (hT.ext hW) ((hA.il.take 20).ext hW) ((hB.il.take 20).ext hW))
  have P2 := Lib.hid (fun W (hW : Ext w W) => print_is A B (min n 20) (min m 20) c c' s t (l.take 20) (r.take 20) (by omega) (by omega) W ((hA.il.take 20).ext hW) ((hB.il.take 20).ext hW))
  have Q1 := Lib.hid (fun W (hW : Ext w W) => dparse_is (S.take 200) (by simp; omega) W (hG.ext hW))
  have Q2 := Lib.hid (fun W => parse_is ⟨(S.take 200).toArray⟩ (S.take 200) rfl (by show (S.take 200).toArray.size ≤ 1000; simp; omega) W)
  have CS := Lib.hid (fun W => cut_list S ▸ cuts_is ⟨S.toArray⟩ W)
  unfold DParseR at Q1
  unfold ParseR at Q2
  simp only [hp] at Q1 Q2
  have hbR := right_of (parse_some hp).1
  have hb1 : bp.length ≤ 1000000 := by have := (lens_of hbR).1; have := hbR.s1; simp only at *; omega
  have hb2 : bq.length ≤ 1000000 := by have := (lens_of hbR).2; have := hbR.e1; simp only at *; omega
  clear hbR
  simp only [tvv, tv, sv] at P1 P2 Q1 CS ⊢
  clear hG hT hA hB hp
  generalize min n 20 = n' at *
  generalize min m 20 = m' at *
  generalize (⟨(textV ⟨s, l.take 20, t, r.take 20⟩).toArray⟩ : ByteArray) = Z1 at *
  generalize textE ⟨s, l.take 20, t, r.take 20⟩ = z1 at *
  generalize (⟨(S.take 200).toArray⟩ : ByteArray) = Z at *
  have hZ : (Z1 == Z1) = true := by rw [show (Z1 == Z1) = (Z1.data == Z1.data) from rfl]; exact beq_self_eq_true _
  go_enter Tryz.func3, Tryz.ntmps3
  go_wp2_with (first | (go_at_call 4; refine (SH.out _ HE.out).mono ?_; rintro e w1 ⟨rfl, k1⟩; obtain ⟨⟨q0, q1, q2, q3⟩, f0, f1, f2, f3⟩ := cells4 (at_new k1)) | (go_at_call 5; refine (CU.out _).mono ?_; rintro e w2 ⟨rfl, k2⟩; have k3 := Ext.trans k1 k2; clear q0 q1 q2 q3 f0 f1 f2 f3 k1 k2; obtain ⟨⟨q0, q1, q2, q3⟩, f0, f1, f2, f3⟩ := cells4 (at_new k3)) | (go_at_call 6; refine (P1.out _ (box_set4 (at_new k3) (Ext.trans HE.out k3) (Nat.le_refl _)).2).mono ?_; rintro e w3 ⟨rfl, k4⟩; have bx := (box_set4 (at_new k3) (Ext.trans HE.out k3) (Nat.le_refl _)).1.ext k4; have kx := Ext.trans (box_set4 (at_new k3) (Ext.trans HE.out k3) (Nat.le_refl _)).2 k4; clear q0 q1 q2 q3 f0 f1 f2 f3 k3 k4; obtain ⟨⟨q0, q1, q2, q3⟩, f0, f1, f2, f3⟩ := cells4 bx; clear P1) | (go_at_call 7; refine (P2.out _ kx).mono ?_; rintro e w3 ⟨rfl, k4⟩; replace bx := bx.ext k4; replace kx := Ext.trans kx k4; clear q0 q1 q2 q3 f0 f1 f2 f3 k4; obtain ⟨⟨q0, q1, q2, q3⟩, f0, f1, f2, f3⟩ := cells4 bx; clear P2 bx q0 q1 q2 q3 f0 f1 f2 f3) | (go_at_call 8; refine (Q1.out _ kx).mono ?_; rintro e w5 ⟨X1, x1, Y1, y1, rfl, -, -, -, -, i1, i2, k4⟩; clear Q1; replace i1 := Lib.hid i1; replace i2 := Lib.hid i2; have kq := Ext.trans kx k4; clear kx k4) | (go_at_call 9; refine (CS.out _).mono ?_; rintro e w6 ⟨rfl, k4⟩; have bd := at_new k4; have kz := Ext.trans (Ext.trans kq (ext1 _ _)) k4; replace i1 := Lib.hid ((i1.out.ext (ext1 _ _)).ext k4); replace i2 := Lib.hid ((i2.out.ext (ext1 _ _)).ext k4); clear kq k4) | (go_at_call 9; refine (CS.out _).mono ?_; rintro e w6 ⟨rfl, k4⟩; replace kx := Ext.trans kx k4; clear k4) | (go_at_call 10; refine (Q2.out _).mono ?_; rintro e w7 ⟨X2, x2, Y2, y2, rfl, -, -, -, -, j1, j2, k4⟩; replace bd := bd.ext k4; replace kz := Ext.trans kz k4; replace i1 := Lib.hid (i1.out.ext k4); replace i2 := Lib.hid (i2.out.ext k4); replace j1 := Lib.hid j1; replace j2 := Lib.hid j2; clear Q2 k4; obtain ⟨a0, a1, a2, a3⟩ := cells4A bd) | (go_at_call 11; refine (same_is X1 Y1 _ _ x1 y1 bs be bp bq hb1 hb2 X2 Y2 _ _ x2 y2 bs be bp bq _ (i1.out.ext (ext1 _ _)) (i2.out.ext (ext1 _ _)) (j1.out.ext (ext1 _ _)) (j2.out.ext (ext1 _ _))).mono ?_; simp only [decide_true]; rintro e w8 ⟨rfl, k4⟩))
  go_ret
  exact ⟨rfl, Ext.trans (Ext.trans kz (ext1 _ _)) k4⟩
end
section
set_option maxHeartbeats 8000000 in
set_option maxRecDepth 100000 in
theorem texts_n (A B : Option Addr) (n m c c' : Nat) (s t : Int) (l r : List Int) (S : List UInt8) (w : World) (hA : Arg w A n c l) (hB : Arg w B m c' r) (hG : G w) (hT : HTab w) (hp : parseP (S.take 200) = none) :
    Calls Tryz.prog 3 #[.agg #[.int .i64 s, .slice A n c, .int .i64 t, .slice B m c'], tv S] w fun e w' => e = .returned (.bool true) ∧ Ext w w' := by
  have E1 := ext1 w (.cells #[.int .i64 s, .slice A n c, .int .i64 t, .slice B m c'] 24)
  have HE := Lib.hid E1
  have SH := Lib.hid (fun W (hW : Ext w W) => shown_is W (hG.ext hW))
  have CU := Lib.hid (fun W => cutd_is A B n m c c' s t hA.z hB.z hA.n hB.n hA.c hB.c W)
  have P1 := Lib.hid (fun W (hW : Ext w W) => dprint_is A B (min n 20) (min m 20) c c' s t (l.take 20) (r.take 20) (by omega) (by omega) W (hG.ext hW) (hT.ext hW) ((hA.il.take 20).ext hW) ((hB.il.take 20).ext hW))
  have P2 := Lib.hid (fun W (hW : Ext w W) => print_is A B (min n 20) (min m 20) c c' s t (l.take 20) (r.take 20) (by omega) (by omega) W ((hA.il.take 20).ext hW) ((hB.il.take 20).ext hW))
  have Q1 := Lib.hid (fun W (hW : Ext w W) => dparse_is (S.take 200) (by simp; omega) W (hG.ext hW))
  have Q2 := Lib.hid (fun W => parse_is ⟨(S.take 200).toArray⟩ (S.take 200) rfl (by show (S.take 200).toArray.size ≤ 1000; simp; omega) W)
  have CS := Lib.hid (fun W => cut_list S ▸ cuts_is ⟨S.toArray⟩ W)
  unfold DParseR at Q1
  unfold ParseR at Q2
  simp only [hp] at Q1 Q2
  simp only [tvv, tv, sv] at P1 P2 Q1 CS ⊢
  clear hG hT hA hB hp
  generalize min n 20 = n' at *
  generalize min m 20 = m' at *
  generalize (⟨(textV ⟨s, l.take 20, t, r.take 20⟩).toArray⟩ : ByteArray) = Z1 at *
  generalize textE ⟨s, l.take 20, t, r.take 20⟩ = z1 at *
  generalize (⟨(S.take 200).toArray⟩ : ByteArray) = Z at *
  have hZ : (Z1 == Z1) = true := by rw [show (Z1 == Z1) = (Z1.data == Z1.data) from rfl]; exact beq_self_eq_true _
  go_enter Tryz.func3, Tryz.ntmps3
  go_wp2_with (first | (go_at_call 4; refine (SH.out _ HE.out).mono ?_; rintro e w1 ⟨rfl, k1⟩; obtain ⟨⟨q0, q1, q2, q3⟩, f0, f1, f2, f3⟩ := cells4 (at_new k1)) | (go_at_call 5; refine (CU.out _).mono ?_; rintro e w2 ⟨rfl, k2⟩; have k3 := Ext.trans k1 k2; clear q0 q1 q2 q3 f0 f1 f2 f3 k1 k2; obtain ⟨⟨q0, q1, q2, q3⟩, f0, f1, f2, f3⟩ := cells4 (at_new k3)) | (go_at_call 6; refine (P1.out _ (box_set4 (at_new k3) (Ext.trans HE.out k3) (Nat.le_refl _)).2).mono ?_; rintro e w3 ⟨rfl, k4⟩; have bx := (box_set4 (at_new k3) (Ext.trans HE.out k3) (Nat.le_refl _)).1.ext k4; have kx := Ext.trans (box_set4 (at_new k3) (Ext.trans HE.out k3) (Nat.le_refl _)).2 k4; clear q0 q1 q2 q3 f0 f1 f2 f3 k3 k4; obtain ⟨⟨q0, q1, q2, q3⟩, f0, f1, f2, f3⟩ := cells4 bx; clear P1) | (go_at_call 7; refine (P2.out _ kx).mono ?_; rintro e w3 ⟨rfl, k4⟩; replace bx := bx.ext k4; replace kx := Ext.trans kx k4; clear q0 q1 q2 q3 f0 f1 f2 f3 k4; obtain ⟨⟨q0, q1, q2, q3⟩, f0, f1, f2, f3⟩ := cells4 bx; clear P2 bx q0 q1 q2 q3 f0 f1 f2 f3) | (go_at_call 8; refine (Q1.out _ kx).mono ?_; rintro e w5 ⟨rfl, k4⟩; clear Q1; have kq := Ext.trans kx k4; clear kx k4) | (go_at_call 9; refine (CS.out _).mono ?_; rintro e w6 ⟨rfl, k4⟩; have bd := at_new k4; have kz := Ext.trans (Ext.trans kq (ext1 _ _)) k4; clear kq k4) | (go_at_call 9; refine (CS.out _).mono ?_; rintro e w6 ⟨rfl, k4⟩; replace kx := Ext.trans kx k4; clear k4) | (go_at_call 10; refine (Q2.out _).mono ?_; rintro e w7 ⟨rfl, k4⟩; replace bd := bd.ext k4; replace kz := Ext.trans kz k4; clear Q2 k4; obtain ⟨a0, a1, a2, a3⟩ := cells4A bd) | (go_at_call 11; refine (same_is none none 0 0 0 0 0 0 [] [] (by decide) (by decide) none none 0 0 0 0 0 0 [] [] _ ⟨rfl, fun h => absurd h (by decide)⟩ ⟨rfl, fun h => absurd h (by decide)⟩ ⟨rfl, fun h => absurd h (by decide)⟩ ⟨rfl, fun h => absurd h (by decide)⟩).mono ?_; simp only [decide_true]; rintro e w8 ⟨rfl, k4⟩))
  go_ret
  exact ⟨rfl, Ext.trans (Ext.trans kz (ext1 _ _)) k4⟩
end
section
set_option maxHeartbeats 4000000 in
set_option maxRecDepth 100000 in
theorem texts_walk (A B : Option Addr) (n m c c' : Nat) (s t : Int) (l r : List Int) (S : List UInt8) (w : World) (hA : Arg w A n c l) (hB : Arg w B m c' r) (hG : G w) (hT : HTab w) :
    Calls Tryz.prog 3 #[.agg #[.int .i64 s, .slice A n c, .int .i64 t, .slice B m c'], tv S] w fun e w' => e = .returned (.bool true) ∧ Ext w w' := by
  cases hp : parseP (S.take 200)
  · exact texts_n A B n m c c' s t l r S w hA hB hG hT hp
  · rename_i b; exact texts_s A B n m c c' s t l r S w hA hB hG hT b.size b.elem b.ptrs b.eptrs hp
end
end Go.Proofs.YtgmpcinlkiiboaaGreatDoor
