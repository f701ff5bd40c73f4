/- selionlaw04.DescBack: the walk (made by gen_laws.py). -/
import Derived.Test.YtgmpcinlkiiboaaDoorLaw0
import Derived.Test.YtgmpcinlkiiboaaDoorSameD
import Derived.Test.YtgmpcinlkiiboaaDoorTextLen
import Derived.Test.YtgmpcinlkiiboaaDoorParseD
import Derived.Test.YtgmpcinlkiiboaaDoorPrintD2
import Derived.Test.YtgmpcinlkiiboaaDoorPartD
namespace Go.Proofs.YtgmpcinlkiiboaaDoor
open Go.RowKit Go
theorem cells4A {w : World} {R : Nat} {x0 x1 x2 x3 : Value} {t : TypeId} (hB : Blk w R #[x0, x1, x2, x3] t) :
    (∀ o, (w.alloc o).cell? ⟨R, 0, none⟩ = some x0) ∧ (∀ o, (w.alloc o).cell? ⟨R, 1, none⟩ = some x1) ∧ (∀ o, (w.alloc o).cell? ⟨R, 2, none⟩ = some x2) ∧ (∀ o, (w.alloc o).cell? ⟨R, 3, none⟩ = some x3) :=
  ⟨fun o => (cells4 (hB.alloc o)).1.1, fun o => (cells4 (hB.alloc o)).1.2.1, fun o => (cells4 (hB.alloc o)).1.2.2.1, fun o => (cells4 (hB.alloc o)).1.2.2.2⟩
section
set_option maxHeartbeats 8000000 in
set_option maxRecDepth 100000 in
theorem back_rs (A B : Option Addr) (n m c c' : Nat) (s t : Int) (l r : List Int) (S : List UInt8) (w : World) (hA : Arg w A n c l) (hB : Arg w B m c' r) (hG : G w) (hT : HTab w) (hr : rightB ⟨s, l.take 20, t, r.take 20⟩ = true) (bs be : Int) (bp bq : List Int) (hp : parseP (S.take 200) = some ⟨bs, bp, be, bq⟩) :
    Calls Tryd.prog 5 #[.agg #[.int .i64 s, .slice A n c, .int .i64 t, .slice B m c'], tv S] w fun e w' => e = .returned (.bool true) ∧ Ext w w' := by
  have E1 := ext1 w (.cells #[.int .i64 s, .slice A n c, .int .i64 t, .slice B m c'] 24)
  have HE := Lib.hid E1
  have SH := Lib.hid (fun W (hW : Ext w W) => shown_is W (hG.ext hW))
  have CU := Lib.hid (fun W => cutd_is A B n m c c' s t hA.z hB.z hA.n hB.n hA.c hB.c W)
  have HG := Lib.hid (fun W (hW : Ext w W) => hG.ext hW)
  have HT := Lib.hid (fun W (hW : Ext w W) => hT.ext hW)
  have HA := Lib.hid (fun W (hW : Ext w W) => (hA.il.take 20).ext hW)
  have HB := Lib.hid (fun W (hW : Ext w W) => (hB.il.take 20).ext hW)
  have P1 := Lib.hid (fun W (hW : Ext w W) => dprint_is A B (min n 20) (min m 20) c c' s t (l.take 20) (r.take 20) (by omega) (by omega) W (hG.ext hW) (hT.ext hW) ((hA.il.take 20).ext hW) ((hB.il.take 20).ext hW))
  have Q1 := Lib.hid (fun W (hW : Ext w W) => dparse_is (textV ⟨s, l.take 20, t, r.take 20⟩) (textV_len _ (by simp; omega) (by simp; omega)) W (hG.ext hW))
  have Q2 := Lib.hid (fun W (hW : Ext w W) => dparse_is (S.take 200) (by simp; omega) W (hG.ext hW))
  have CS := Lib.hid (fun W => cut_list S ▸ cuts_is ⟨S.toArray⟩ W)
  have RT := Lib.hid (fun W (hW : Ext w W) => dright_is A B (min n 20) (min m 20) c c' s t (l.take 20) (r.take 20) (by omega) (by omega) W ((hA.il.take 20).ext hW) ((hB.il.take 20).ext hW))
  have tE : textE ⟨s, l.take 20, t, r.take 20⟩ = 0 := by unfold textE; rw [hr]; rfl
  have pE : parseP (textV ⟨s, l.take 20, t, r.take 20⟩) = some ⟨s, l.take 20, t, r.take 20⟩ := by unfold textV; rw [hr]; exact parse_text _ hr
  rw [tE] at P1
  rw [hr] at RT
  unfold DParseR at Q1 Q2
  simp only [pE] at Q1
  simp only [hp] at Q2
  have hl20 : (l.take 20).length ≤ 1000 := by simp; omega
  have hr20 : (r.take 20).length ≤ 1000 := by simp; omega
  have hn20 : min n 20 ≤ 1000000 := by omega
  have hm20 : min m 20 ≤ 1000000 := by omega
  have hb := parse_some hp
  have hbR := right_of hb.1
  have hb1 : bp.length ≤ 1000 := by have := (lens_of hbR).1; have := hbR.s1; simp only at *; omega
  have hb2 : bq.length ≤ 1000 := by have := (lens_of hbR).2; have := hbR.e1; simp only at *; omega
  have tV : textV ⟨bs, bp, be, bq⟩ = S.take 200 := by unfold textV; rw [hb.1]; exact hb.2
  have tE2 : textE ⟨bs, bp, be, bq⟩ = 0 := by unfold textE; rw [hb.1]; rfl
  have P2 := Lib.hid (fun (W : World) (X Y : Option Addr) (z z' : Nat) (hW : Ext w W) (i : Il W X bp.length bp) (j : Il W Y bq.length bq) => tV ▸ tE2 ▸ dprint_is X Y bp.length bq.length z z' bs be bp bq hb1 hb2 W (hG.ext hW) (hT.ext hW) i j)
  clear hb hbR tV tE2
  clear hG hT hA hB hp pE tE hr
  generalize min n 20 = n' at *
  generalize min m 20 = m' at *
  simp only [tvv, tv] at P1 Q1 Q2 CS P2 ⊢
  generalize (⟨(textV ⟨s, l.take 20, t, r.take 20⟩).toArray⟩ : ByteArray) = Z1 at *
  generalize (⟨(S.take 200).toArray⟩ : ByteArray) = Z at *
  generalize l.take 20 = l1 at *
  generalize r.take 20 = r1 at *
  have hZ : (Z == Z) = true := by rw [show (Z == Z) = (Z.data == Z.data) from rfl]; exact beq_self_eq_true _
  go_enter Tryd.func5, Tryd.ntmps5
  go_wp2_with (first | (go_at_call 8; refine (SH.out _ HE.out).mono ?_; rintro e w1 ⟨rfl, k1⟩; obtain ⟨⟨q0, q1, q2, q3⟩, f0, f1, f2, f3⟩ := cells4 (at_new k1)) | (go_at_call 9; refine (CU.out _).mono ?_; rintro e w2 ⟨rfl, k2⟩; have k3 := Ext.trans k1 k2; clear q0 q1 q2 q3 f0 f1 f2 f3 k1 k2; obtain ⟨⟨q0, q1, q2, q3⟩, f0, f1, f2, f3⟩ := cells4 (at_new k3)) | (go_at_call 21; refine (P1.out _ (box_set4 (at_new k3) (Ext.trans HE.out k3) (Nat.le_refl _)).2).mono ?_; rintro e w3 ⟨rfl, k4⟩; have bx := (box_set4 (at_new k3) (Ext.trans HE.out k3) (Nat.le_refl _)).1.ext k4; have kx := Ext.trans (box_set4 (at_new k3) (Ext.trans HE.out k3) (Nat.le_refl _)).2 k4; clear q0 q1 q2 q3 f0 f1 f2 f3 k3 k4; obtain ⟨⟨q0, q1, q2, q3⟩, f0, f1, f2, f3⟩ := cells4 bx; clear P1) | (go_at_call 22; refine (Q1.out _ kx).mono ?_; rintro e w4 ⟨X1, x1, Y1, y1, rfl, -, -, -, -, i1, i2, k4⟩; replace bx := bx.ext k4; replace kx := Ext.trans kx k4; clear Q1 q0 q1 q2 q3 f0 f1 f2 f3 k4; replace i1 := Lib.hid i1; replace i2 := Lib.hid i2; have aq := cells4A bx; obtain ⟨⟨q0, q1, q2, q3⟩, f0, f1, f2, f3⟩ := cells4 bx; obtain ⟨a0, a1, a2, a3⟩ := aq) | (go_at_call 18; refine (dsame_is X1 Y1 _ _ x1 y1 s t l1 r1 (by omega) (by omega) A B n' m' c c' s t l1 r1 _ (i1.out.ext (ext1 _ _)) (i2.out.ext (ext1 _ _)) (HA.out _ (Ext.trans kx (ext1 _ _))) (HB.out _ (Ext.trans kx (ext1 _ _)))).mono ?_; simp only [decide_true]; rintro e w5 ⟨rfl, k4⟩; replace bx := (bx.alloc _).ext k4; replace kx := Ext.trans (Ext.trans kx (ext1 _ _)) k4; clear q0 q1 q2 q3 f0 f1 f2 f3 a0 a1 a2 a3 k4; have aq := cells4A bx; obtain ⟨⟨q0, q1, q2, q3⟩, f0, f1, f2, f3⟩ := cells4 bx; obtain ⟨a0, a1, a2, a3⟩ := aq) | (go_at_call 23; refine (CS.out _).mono ?_; rintro e w6 ⟨rfl, k4⟩; replace bx := bx.ext k4; replace kx := Ext.trans kx k4; clear q0 q1 q2 q3 f0 f1 f2 f3 a0 a1 a2 a3 k4; have aq := cells4A bx; obtain ⟨⟨q0, q1, q2, q3⟩, f0, f1, f2, f3⟩ := cells4 bx; obtain ⟨a0, a1, a2, a3⟩ := aq) | (go_at_call 22; refine (Q2.out _ kx).mono ?_; rintro e w7 ⟨X2, x2, Y2, y2, rfl, -, -, -, -, j1, j2, k4⟩; replace bx := bx.ext k4; replace kx := Ext.trans kx k4; clear q0 q1 q2 q3 f0 f1 f2 f3 a0 a1 a2 a3 Q2 k4; replace j1 := Lib.hid j1; replace j2 := Lib.hid j2; have aq := cells4A bx; obtain ⟨⟨q0, q1, q2, q3⟩, f0, f1, f2, f3⟩ := cells4 bx; obtain ⟨a0, a1, a2, a3⟩ := aq) | (go_at_call 21; refine (P2.out _ X2 Y2 x2 y2 (Ext.trans kx (ext1 _ _)) (j1.out.ext (ext1 _ _)) (j2.out.ext (ext1 _ _))).mono ?_; rintro e w8 ⟨rfl, k4⟩; have bd := at_new k4; have bP := (bx.alloc _).ext k4; have kP := Ext.trans (Ext.trans kx (ext1 _ _)) k4; clear bx kx; have bx := bP; have kx := kP; clear bP kP a0 a1 a2 a3 q0 q1 q2 q3 f0 f1 f2 f3 k4 P2; have aq := cells4A bx; obtain ⟨⟨q0, q1, q2, q3⟩, f0, f1, f2, f3⟩ := cells4 bx; obtain ⟨a0, a1, a2, a3⟩ := aq; obtain ⟨⟨e0, e1, e2, e3⟩, g0, g1, g2, g3⟩ := cells4 bd) | (go_at_call 16; refine (RT.out _ kx).mono ?_; rintro e w9 ⟨rfl, k4⟩; replace bx := bx.ext k4; replace bd := bd.ext k4; replace kx := Ext.trans kx k4; clear q0 q1 q2 q3 f0 f1 f2 f3 a0 a1 a2 a3 e0 e1 e2 e3 g0 g1 g2 g3 RT k4; have aq := cells4A bx; obtain ⟨⟨q0, q1, q2, q3⟩, f0, f1, f2, f3⟩ := cells4 bx; obtain ⟨a0, a1, a2, a3⟩ := aq; obtain ⟨⟨e0, e1, e2, e3⟩, g0, g1, g2, g3⟩ := cells4 bd))
  go_ret
  exact ⟨rfl, kx⟩
end
section
set_option maxHeartbeats 8000000 in
set_option maxRecDepth 100000 in
theorem back_rn (A B : Option Addr) (n m c c' : Nat) (s t : Int) (l r : List Int) (S : List UInt8) (w : World) (hA : Arg w A n c l) (hB : Arg w B m c' r) (hG : G w) (hT : HTab w) (hr : rightB ⟨s, l.take 20, t, r.take 20⟩ = true) (hp : parseP (S.take 200) = none) :
    Calls Tryd.prog 5 #[.agg #[.int .i64 s, .slice A n c, .int .i64 t, .slice B m c'], tv S] w fun e w' => e = .returned (.bool true) ∧ Ext w w' := by
  have E1 := ext1 w (.cells #[.int .i64 s, .slice A n c, .int .i64 t, .slice B m c'] 24)
  have HE := Lib.hid E1
  have SH := Lib.hid (fun W (hW : Ext w W) => shown_is W (hG.ext hW))
  have CU := Lib.hid (fun W => cutd_is A B n m c c' s t hA.z hB.z hA.n hB.n hA.c hB.c W)
  have HG := Lib.hid (fun W (hW : Ext w W) => hG.ext hW)
  have HT := Lib.hid (fun W (hW : Ext w W) => hT.ext hW)
  have HA := Lib.hid (fun W (hW : Ext w W) => (hA.il.take 20).ext hW)
  have HB := Lib.hid (fun W (hW : Ext w W) => (hB.il.take 20).ext hW)
  have P1 := Lib.hid (fun W (hW : Ext w W) => dprint_is A B (min n 20) (min m 20) c c' s t (l.take 20) (r.take 20) (by omega) (by omega) W (hG.ext hW) (hT.ext hW) ((hA.il.take 20).ext hW) ((hB.il.take 20).ext hW))
  have Q1 := Lib.hid (fun W (hW : Ext w W) => dparse_is (textV ⟨s, l.take 20, t, r.take 20⟩) (textV_len _ (by simp; omega) (by simp; omega)) W (hG.ext hW))
  have Q2 := Lib.hid (fun W (hW : Ext w W) => dparse_is (S.take 200) (by simp; omega) W (hG.ext hW))
  have CS := Lib.hid (fun W => cut_list S ▸ cuts_is ⟨S.toArray⟩ W)
  have RT := Lib.hid (fun W (hW : Ext w W) => dright_is A B (min n 20) (min m 20) c c' s t (l.take 20) (r.take 20) (by omega) (by omega) W ((hA.il.take 20).ext hW) ((hB.il.take 20).ext hW))
  have tE : textE ⟨s, l.take 20, t, r.take 20⟩ = 0 := by unfold textE; rw [hr]; rfl
  have pE : parseP (textV ⟨s, l.take 20, t, r.take 20⟩) = some ⟨s, l.take 20, t, r.take 20⟩ := by unfold textV; rw [hr]; exact parse_text _ hr
  rw [tE] at P1
  rw [hr] at RT
  unfold DParseR at Q1 Q2
  simp only [pE] at Q1
  simp only [hp] at Q2
  have hl20 : (l.take 20).length ≤ 1000 := by simp; omega
  have hr20 : (r.take 20).length ≤ 1000 := by simp; omega
  have hn20 : min n 20 ≤ 1000000 := by omega
  have hm20 : min m 20 ≤ 1000000 := by omega
  have P2 := Lib.hid (fun (W : World) (hW : Ext w W) => dprint_is none none 0 0 0 0 0 0 [] [] (by decide) (by decide) W (hG.ext hW) (hT.ext hW) ⟨rfl, fun h => absurd h (by decide)⟩ ⟨rfl, fun h => absurd h (by decide)⟩)
  clear hG hT hA hB hp pE tE hr
  generalize min n 20 = n' at *
  generalize min m 20 = m' at *
  simp only [tvv, tv] at P1 Q1 Q2 CS P2 ⊢
  generalize (⟨(textV ⟨s, l.take 20, t, r.take 20⟩).toArray⟩ : ByteArray) = Z1 at *
  generalize (⟨(S.take 200).toArray⟩ : ByteArray) = Z at *
  generalize (⟨(textV ⟨0, [], 0, []⟩).toArray⟩ : ByteArray) = Z0 at *
  generalize textE ⟨0, [], 0, []⟩ = z0 at *
  generalize l.take 20 = l1 at *
  generalize r.take 20 = r1 at *
  have hZ : (Z == Z) = true := by rw [show (Z == Z) = (Z.data == Z.data) from rfl]; exact beq_self_eq_true _
  go_enter Tryd.func5, Tryd.ntmps5
  go_wp2_with (first | (go_at_call 8; refine (SH.out _ HE.out).mono ?_; rintro e w1 ⟨rfl, k1⟩; obtain ⟨⟨q0, q1, q2, q3⟩, f0, f1, f2, f3⟩ := cells4 (at_new k1)) | (go_at_call 9; refine (CU.out _).mono ?_; rintro e w2 ⟨rfl, k2⟩; have k3 := Ext.trans k1 k2; clear q0 q1 q2 q3 f0 f1 f2 f3 k1 k2; obtain ⟨⟨q0, q1, q2, q3⟩, f0, f1, f2, f3⟩ := cells4 (at_new k3)) | (go_at_call 21; refine (P1.out _ (box_set4 (at_new k3) (Ext.trans HE.out k3) (Nat.le_refl _)).2).mono ?_; rintro e w3 ⟨rfl, k4⟩; have bx := (box_set4 (at_new k3) (Ext.trans HE.out k3) (Nat.le_refl _)).1.ext k4; have kx := Ext.trans (box_set4 (at_new k3) (Ext.trans HE.out k3) (Nat.le_refl _)).2 k4; clear q0 q1 q2 q3 f0 f1 f2 f3 k3 k4; obtain ⟨⟨q0, q1, q2, q3⟩, f0, f1, f2, f3⟩ := cells4 bx; clear P1) | (go_at_call 22; refine (Q1.out _ kx).mono ?_; rintro e w4 ⟨X1, x1, Y1, y1, rfl, -, -, -, -, i1, i2, k4⟩; replace bx := bx.ext k4; replace kx := Ext.trans kx k4; clear Q1 q0 q1 q2 q3 f0 f1 f2 f3 k4; replace i1 := Lib.hid i1; replace i2 := Lib.hid i2; have aq := cells4A bx; obtain ⟨⟨q0, q1, q2, q3⟩, f0, f1, f2, f3⟩ := cells4 bx; obtain ⟨a0, a1, a2, a3⟩ := aq) | (go_at_call 18; refine (dsame_is X1 Y1 _ _ x1 y1 s t l1 r1 (by omega) (by omega) A B n' m' c c' s t l1 r1 _ (i1.out.ext (ext1 _ _)) (i2.out.ext (ext1 _ _)) (HA.out _ (Ext.trans kx (ext1 _ _))) (HB.out _ (Ext.trans kx (ext1 _ _)))).mono ?_; simp only [decide_true]; rintro e w5 ⟨rfl, k4⟩; replace bx := (bx.alloc _).ext k4; replace kx := Ext.trans (Ext.trans kx (ext1 _ _)) k4; clear q0 q1 q2 q3 f0 f1 f2 f3 a0 a1 a2 a3 k4; have aq := cells4A bx; obtain ⟨⟨q0, q1, q2, q3⟩, f0, f1, f2, f3⟩ := cells4 bx; obtain ⟨a0, a1, a2, a3⟩ := aq) | (go_at_call 23; refine (CS.out _).mono ?_; rintro e w6 ⟨rfl, k4⟩; replace bx := bx.ext k4; replace kx := Ext.trans kx k4; clear q0 q1 q2 q3 f0 f1 f2 f3 a0 a1 a2 a3 k4; have aq := cells4A bx; obtain ⟨⟨q0, q1, q2, q3⟩, f0, f1, f2, f3⟩ := cells4 bx; obtain ⟨a0, a1, a2, a3⟩ := aq) | (go_at_call 22; refine (Q2.out _ kx).mono ?_; rintro e w7 ⟨rfl, k4⟩; replace bx := bx.ext k4; replace kx := Ext.trans kx k4; clear q0 q1 q2 q3 f0 f1 f2 f3 a0 a1 a2 a3 Q2 k4; have aq := cells4A bx; obtain ⟨⟨q0, q1, q2, q3⟩, f0, f1, f2, f3⟩ := cells4 bx; obtain ⟨a0, a1, a2, a3⟩ := aq) | (go_at_call 21; refine (P2.out _ (Ext.trans kx (ext1 _ _))).mono ?_; rintro e w8 ⟨rfl, k4⟩; have bd := at_new k4; have bP := (bx.alloc _).ext k4; have kP := Ext.trans (Ext.trans kx (ext1 _ _)) k4; clear bx kx; have bx := bP; have kx := kP; clear bP kP a0 a1 a2 a3 q0 q1 q2 q3 f0 f1 f2 f3 k4 P2; have aq := cells4A bx; obtain ⟨⟨q0, q1, q2, q3⟩, f0, f1, f2, f3⟩ := cells4 bx; obtain ⟨a0, a1, a2, a3⟩ := aq; obtain ⟨⟨e0, e1, e2, e3⟩, g0, g1, g2, g3⟩ := cells4 bd) | (go_at_call 16; refine (RT.out _ kx).mono ?_; rintro e w9 ⟨rfl, k4⟩; replace bx := bx.ext k4; replace bd := bd.ext k4; replace kx := Ext.trans kx k4; clear q0 q1 q2 q3 f0 f1 f2 f3 a0 a1 a2 a3 e0 e1 e2 e3 g0 g1 g2 g3 RT k4; have aq := cells4A bx; obtain ⟨⟨q0, q1, q2, q3⟩, f0, f1, f2, f3⟩ := cells4 bx; obtain ⟨a0, a1, a2, a3⟩ := aq; obtain ⟨⟨e0, e1, e2, e3⟩, g0, g1, g2, g3⟩ := cells4 bd))
  go_ret
  exact ⟨rfl, kx⟩
end
section
set_option maxHeartbeats 8000000 in
set_option maxRecDepth 100000 in
theorem back_ns (A B : Option Addr) (n m c c' : Nat) (s t : Int) (l r : List Int) (S : List UInt8) (w : World) (hA : Arg w A n c l) (hB : Arg w B m c' r) (hG : G w) (hT : HTab w) (hr : rightB ⟨s, l.take 20, t, r.take 20⟩ = false) (bs be : Int) (bp bq : List Int) (hp : parseP (S.take 200) = some ⟨bs, bp, be, bq⟩) :
    Calls Tryd.prog 5 #[.agg #[.int .i64 s, .slice A n c, .int .i64 t, .slice B m c'], tv S] w fun e w' => e = .returned (.bool true) ∧ Ext w w' := by
  have E1 := ext1 w (.cells #[.int .i64 s, .slice A n c, .int .i64 t, .slice B m c'] 24)
  have HE := Lib.hid E1
  have SH := Lib.hid (fun W (hW : Ext w W) => shown_is W (hG.ext hW))
  have CU := Lib.hid (fun W => cutd_is A B n m c c' s t hA.z hB.z hA.n hB.n hA.c hB.c W)
  have HG := Lib.hid (fun W (hW : Ext w W) => hG.ext hW)
  have HT := Lib.hid (fun W (hW : Ext w W) => hT.ext hW)
  have HA := Lib.hid (fun W (hW : Ext w W) => (hA.il.take 20).ext hW)
  have HB := Lib.hid (fun W (hW : Ext w W) => (hB.il.take 20).ext hW)
  have P1 := Lib.hid (fun W (hW : Ext w W) => dprint_is A B (min n 20) (min m 20) c c' s t (l.take 20) (r.take 20) (by omega) (by omega) W (hG.ext hW) (hT.ext hW) ((hA.il.take 20).ext hW) ((hB.il.take 20).ext hW))
  have Q1 := Lib.hid (fun W (hW : Ext w W) => dparse_is (textV ⟨s, l.take 20, t, r.take 20⟩) (textV_len _ (by simp; omega) (by simp; omega)) W (hG.ext hW))
  have Q2 := Lib.hid (fun W (hW : Ext w W) => dparse_is (S.take 200) (by simp; omega) W (hG.ext hW))
  have CS := Lib.hid (fun W => cut_list S ▸ cuts_is ⟨S.toArray⟩ W)
  have RT := Lib.hid (fun W (hW : Ext w W) => dright_is A B (min n 20) (min m 20) c c' s t (l.take 20) (r.take 20) (by omega) (by omega) W ((hA.il.take 20).ext hW) ((hB.il.take 20).ext hW))
  have tE : textE ⟨s, l.take 20, t, r.take 20⟩ = 40 := by unfold textE; rw [hr]; rfl
  have pE : parseP (textV ⟨s, l.take 20, t, r.take 20⟩) = none := by unfold textV; rw [hr]; rfl
  rw [tE] at P1
  rw [hr] at RT
  unfold DParseR at Q1 Q2
  simp only [pE] at Q1
  simp only [hp] at Q2
  have hb := parse_some hp
  have hbR := right_of hb.1
  have hb1 : bp.length ≤ 1000 := by have := (lens_of hbR).1; have := hbR.s1; simp only at *; omega
  have hb2 : bq.length ≤ 1000 := by have := (lens_of hbR).2; have := hbR.e1; simp only at *; omega
  have tV : textV ⟨bs, bp, be, bq⟩ = S.take 200 := by unfold textV; rw [hb.1]; exact hb.2
  have tE2 : textE ⟨bs, bp, be, bq⟩ = 0 := by unfold textE; rw [hb.1]; rfl
  have P2 := Lib.hid (fun (W : World) (X Y : Option Addr) (z z' : Nat) (hW : Ext w W) (i : Il W X bp.length bp) (j : Il W Y bq.length bq) => tV ▸ tE2 ▸ dprint_is X Y bp.length bq.length z z' bs be bp bq hb1 hb2 W (hG.ext hW) (hT.ext hW) i j)
  clear hb hbR tV tE2
  clear hG hT hA hB hp pE tE hr
  generalize min n 20 = n' at *
  generalize min m 20 = m' at *
  simp only [tvv, tv] at P1 Q1 Q2 CS P2 ⊢
  generalize (⟨(textV ⟨s, l.take 20, t, r.take 20⟩).toArray⟩ : ByteArray) = Z1 at *
  generalize (⟨(S.take 200).toArray⟩ : ByteArray) = Z at *
  generalize l.take 20 = l1 at *
  generalize r.take 20 = r1 at *
  have hZ : (Z == Z) = true := by rw [show (Z == Z) = (Z.data == Z.data) from rfl]; exact beq_self_eq_true _
  go_enter Tryd.func5, Tryd.ntmps5
  go_wp2_with (first | (go_at_call 8; refine (SH.out _ HE.out).mono ?_; rintro e w1 ⟨rfl, k1⟩; obtain ⟨⟨q0, q1, q2, q3⟩, f0, f1, f2, f3⟩ := cells4 (at_new k1)) | (go_at_call 9; refine (CU.out _).mono ?_; rintro e w2 ⟨rfl, k2⟩; have k3 := Ext.trans k1 k2; clear q0 q1 q2 q3 f0 f1 f2 f3 k1 k2; obtain ⟨⟨q0, q1, q2, q3⟩, f0, f1, f2, f3⟩ := cells4 (at_new k3)) | (go_at_call 21; refine (P1.out _ (box_set4 (at_new k3) (Ext.trans HE.out k3) (Nat.le_refl _)).2).mono ?_; rintro e w3 ⟨rfl, k4⟩; have bx := (box_set4 (at_new k3) (Ext.trans HE.out k3) (Nat.le_refl _)).1.ext k4; have kx := Ext.trans (box_set4 (at_new k3) (Ext.trans HE.out k3) (Nat.le_refl _)).2 k4; clear q0 q1 q2 q3 f0 f1 f2 f3 k3 k4; obtain ⟨⟨q0, q1, q2, q3⟩, f0, f1, f2, f3⟩ := cells4 bx; clear P1) | (go_at_call 22; refine (Q1.out _ kx).mono ?_; rintro e w4 ⟨rfl, k4⟩; replace bx := bx.ext k4; replace kx := Ext.trans kx k4; clear Q1 q0 q1 q2 q3 f0 f1 f2 f3 k4; have aq := cells4A bx; obtain ⟨⟨q0, q1, q2, q3⟩, f0, f1, f2, f3⟩ := cells4 bx; obtain ⟨a0, a1, a2, a3⟩ := aq) | (go_at_call 23; (first | (refine (CS.out _).mono ?_; rintro e w6 ⟨rfl, k4⟩; have bP := (bx.alloc _).ext k4; have kP := Ext.trans (Ext.trans kx (ext1 _ _)) k4; clear bx kx; have bx := bP; have kx := kP; clear bP kP a0 a1 a2 a3 q0 q1 q2 q3 f0 f1 f2 f3 k4; have aq := cells4A bx; obtain ⟨⟨q0, q1, q2, q3⟩, f0, f1, f2, f3⟩ := cells4 bx; obtain ⟨a0, a1, a2, a3⟩ := aq) | (refine (CS.out _).mono ?_; rintro e w6 ⟨rfl, k4⟩; replace bx := bx.ext k4; replace kx := Ext.trans kx k4; clear q0 q1 q2 q3 f0 f1 f2 f3 a0 a1 a2 a3 k4; have aq := cells4A bx; obtain ⟨⟨q0, q1, q2, q3⟩, f0, f1, f2, f3⟩ := cells4 bx; obtain ⟨a0, a1, a2, a3⟩ := aq))) | (go_at_call 22; refine (Q2.out _ kx).mono ?_; rintro e w7 ⟨X2, x2, Y2, y2, rfl, -, -, -, -, j1, j2, k4⟩; replace bx := bx.ext k4; replace kx := Ext.trans kx k4; clear q0 q1 q2 q3 f0 f1 f2 f3 a0 a1 a2 a3 Q2 k4; replace j1 := Lib.hid j1; replace j2 := Lib.hid j2; have aq := cells4A bx; obtain ⟨⟨q0, q1, q2, q3⟩, f0, f1, f2, f3⟩ := cells4 bx; obtain ⟨a0, a1, a2, a3⟩ := aq) | (go_at_call 21; refine (P2.out _ X2 Y2 x2 y2 (Ext.trans kx (ext1 _ _)) (j1.out.ext (ext1 _ _)) (j2.out.ext (ext1 _ _))).mono ?_; rintro e w8 ⟨rfl, k4⟩; have bd := at_new k4; have bP := (bx.alloc _).ext k4; have kP := Ext.trans (Ext.trans kx (ext1 _ _)) k4; clear bx kx; have bx := bP; have kx := kP; clear bP kP a0 a1 a2 a3 q0 q1 q2 q3 f0 f1 f2 f3 k4 P2; have aq := cells4A bx; obtain ⟨⟨q0, q1, q2, q3⟩, f0, f1, f2, f3⟩ := cells4 bx; obtain ⟨a0, a1, a2, a3⟩ := aq; obtain ⟨⟨e0, e1, e2, e3⟩, g0, g1, g2, g3⟩ := cells4 bd) | (go_at_call 16; refine (RT.out _ kx).mono ?_; rintro e w9 ⟨rfl, k4⟩; replace bx := bx.ext k4; replace bd := bd.ext k4; replace kx := Ext.trans kx k4; clear q0 q1 q2 q3 f0 f1 f2 f3 a0 a1 a2 a3 e0 e1 e2 e3 g0 g1 g2 g3 RT k4; have aq := cells4A bx; obtain ⟨⟨q0, q1, q2, q3⟩, f0, f1, f2, f3⟩ := cells4 bx; obtain ⟨a0, a1, a2, a3⟩ := aq; obtain ⟨⟨e0, e1, e2, e3⟩, g0, g1, g2, g3⟩ := cells4 bd))
  go_ret
  exact ⟨rfl, kx⟩
end
section
set_option maxHeartbeats 8000000 in
set_option maxRecDepth 100000 in
theorem back_nn (A B : Option Addr) (n m c c' : Nat) (s t : Int) (l r : List Int) (S : List UInt8) (w : World) (hA : Arg w A n c l) (hB : Arg w B m c' r) (hG : G w) (hT : HTab w) (hr : rightB ⟨s, l.take 20, t, r.take 20⟩ = false) (hp : parseP (S.take 200) = none) :
    Calls Tryd.prog 5 #[.agg #[.int .i64 s, .slice A n c, .int .i64 t, .slice B m c'], tv S] w fun e w' => e = .returned (.bool true) ∧ Ext w w' := by
  have E1 := ext1 w (.cells #[.int .i64 s, .slice A n c, .int .i64 t, .slice B m c'] 24)
  have HE := Lib.hid E1
  have SH := Lib.hid (fun W (hW : Ext w W) => shown_is W (hG.ext hW))
  have CU := Lib.hid (fun W => cutd_is A B n m c c' s t hA.z hB.z hA.n hB.n hA.c hB.c W)
  have HG := Lib.hid (fun W (hW : Ext w W) => hG.ext hW)
  have HT := Lib.hid (fun W (hW : Ext w W) => hT.ext hW)
  have HA := Lib.hid (fun W (hW : Ext w W) => (hA.il.take 20).ext hW)
  have HB := Lib.hid (fun W (hW : Ext w W) => (hB.il.take 20).ext hW)
  have P1 := Lib.hid (fun W (hW : Ext w W) => dprint_is A B (min n 20) (min m 20) c c' s t (l.take 20) (r.take 20) (by omega) (by omega) W (hG.ext hW) (hT.ext hW) ((hA.il.take 20).ext hW) ((hB.il.take 20).ext hW))
  have Q1 := Lib.hid (fun W (hW : Ext w W) => dparse_is (textV ⟨s, l.take 20, t, r.take 20⟩) (textV_len _ (by simp; omega) (by simp; omega)) W (hG.ext hW))
  have Q2 := Lib.hid (fun W (hW : Ext w W) => dparse_is (S.take 200) (by simp; omega) W (hG.ext hW))
  have CS := Lib.hid (fun W => cut_list S ▸ cuts_is ⟨S.toArray⟩ W)
  have RT := Lib.hid (fun W (hW : Ext w W) => dright_is A B (min n 20) (min m 20) c c' s t (l.take 20) (r.take 20) (by omega) (by omega) W ((hA.il.take 20).ext hW) ((hB.il.take 20).ext hW))
  have tE : textE ⟨s, l.take 20, t, r.take 20⟩ = 40 := by unfold textE; rw [hr]; rfl
  have pE : parseP (textV ⟨s, l.take 20, t, r.take 20⟩) = none := by unfold textV; rw [hr]; rfl
  rw [tE] at P1
  rw [hr] at RT
  unfold DParseR at Q1 Q2
  simp only [pE] at Q1
  simp only [hp] at Q2
  have P2 := Lib.hid (fun (W : World) (hW : Ext w W) => dprint_is none none 0 0 0 0 0 0 [] [] (by decide) (by decide) W (hG.ext hW) (hT.ext hW) ⟨rfl, fun h => absurd h (by decide)⟩ ⟨rfl, fun h => absurd h (by decide)⟩)
  clear hG hT hA hB hp pE tE hr
  generalize min n 20 = n' at *
  generalize min m 20 = m' at *
  simp only [tvv, tv] at P1 Q1 Q2 CS P2 ⊢
  generalize (⟨(textV ⟨s, l.take 20, t, r.take 20⟩).toArray⟩ : ByteArray) = Z1 at *
  generalize (⟨(S.take 200).toArray⟩ : ByteArray) = Z at *
  generalize (⟨(textV ⟨0, [], 0, []⟩).toArray⟩ : ByteArray) = Z0 at *
  generalize textE ⟨0, [], 0, []⟩ = z0 at *
  generalize l.take 20 = l1 at *
  generalize r.take 20 = r1 at *
  have hZ : (Z == Z) = true := by rw [show (Z == Z) = (Z.data == Z.data) from rfl]; exact beq_self_eq_true _
  go_enter Tryd.func5, Tryd.ntmps5
  go_wp2_with (first | (go_at_call 8; refine (SH.out _ HE.out).mono ?_; rintro e w1 ⟨rfl, k1⟩; obtain ⟨⟨q0, q1, q2, q3⟩, f0, f1, f2, f3⟩ := cells4 (at_new k1)) | (go_at_call 9; refine (CU.out _).mono ?_; rintro e w2 ⟨rfl, k2⟩; have k3 := Ext.trans k1 k2; clear q0 q1 q2 q3 f0 f1 f2 f3 k1 k2; obtain ⟨⟨q0, q1, q2, q3⟩, f0, f1, f2, f3⟩ := cells4 (at_new k3)) | (go_at_call 21; refine (P1.out _ (box_set4 (at_new k3) (Ext.trans HE.out k3) (Nat.le_refl _)).2).mono ?_; rintro e w3 ⟨rfl, k4⟩; have bx := (box_set4 (at_new k3) (Ext.trans HE.out k3) (Nat.le_refl _)).1.ext k4; have kx := Ext.trans (box_set4 (at_new k3) (Ext.trans HE.out k3) (Nat.le_refl _)).2 k4; clear q0 q1 q2 q3 f0 f1 f2 f3 k3 k4; obtain ⟨⟨q0, q1, q2, q3⟩, f0, f1, f2, f3⟩ := cells4 bx; clear P1) | (go_at_call 22; refine (Q1.out _ kx).mono ?_; rintro e w4 ⟨rfl, k4⟩; replace bx := bx.ext k4; replace kx := Ext.trans kx k4; clear Q1 q0 q1 q2 q3 f0 f1 f2 f3 k4; have aq := cells4A bx; obtain ⟨⟨q0, q1, q2, q3⟩, f0, f1, f2, f3⟩ := cells4 bx; obtain ⟨a0, a1, a2, a3⟩ := aq) | (go_at_call 23; (first | (refine (CS.out _).mono ?_; rintro e w6 ⟨rfl, k4⟩; have bP := (bx.alloc _).ext k4; have kP := Ext.trans (Ext.trans kx (ext1 _ _)) k4; clear bx kx; have bx := bP; have kx := kP; clear bP kP a0 a1 a2 a3 q0 q1 q2 q3 f0 f1 f2 f3 k4; have aq := cells4A bx; obtain ⟨⟨q0, q1, q2, q3⟩, f0, f1, f2, f3⟩ := cells4 bx; obtain ⟨a0, a1, a2, a3⟩ := aq) | (refine (CS.out _).mono ?_; rintro e w6 ⟨rfl, k4⟩; replace bx := bx.ext k4; replace kx := Ext.trans kx k4; clear q0 q1 q2 q3 f0 f1 f2 f3 a0 a1 a2 a3 k4; have aq := cells4A bx; obtain ⟨⟨q0, q1, q2, q3⟩, f0, f1, f2, f3⟩ := cells4 bx; obtain ⟨a0, a1, a2, a3⟩ := aq))) | (go_at_call 22; refine (Q2.out _ kx).mono ?_; rintro e w7 ⟨rfl, k4⟩; replace bx := bx.ext k4; replace kx := Ext.trans kx k4; clear q0 q1 q2 q3 f0 f1 f2 f3 a0 a1 a2 a3 Q2 k4; have aq := cells4A bx; obtain ⟨⟨q0, q1, q2, q3⟩, f0, f1, f2, f3⟩ := cells4 bx; obtain ⟨a0, a1, a2, a3⟩ := aq) | (go_at_call 21; refine (P2.out _ (Ext.trans kx (ext1 _ _))).mono ?_; rintro e w8 ⟨rfl, k4⟩; have bd := at_new k4; have bP := (bx.alloc _).ext k4; have kP := Ext.trans (Ext.trans kx (ext1 _ _)) k4; clear bx kx; have bx := bP; have kx := kP; clear bP kP a0 a1 a2 a3 q0 q1 q2 q3 f0 f1 f2 f3 k4 P2; have aq := cells4A bx; obtain ⟨⟨q0, q1, q2, q3⟩, f0, f1, f2, f3⟩ := cells4 bx; obtain ⟨a0, a1, a2, a3⟩ := aq; obtain ⟨⟨e0, e1, e2, e3⟩, g0, g1, g2, g3⟩ := cells4 bd) | (go_at_call 16; refine (RT.out _ kx).mono ?_; rintro e w9 ⟨rfl, k4⟩; replace bx := bx.ext k4; replace bd := bd.ext k4; replace kx := Ext.trans kx k4; clear q0 q1 q2 q3 f0 f1 f2 f3 a0 a1 a2 a3 e0 e1 e2 e3 g0 g1 g2 g3 RT k4; have aq := cells4A bx; obtain ⟨⟨q0, q1, q2, q3⟩, f0, f1, f2, f3⟩ := cells4 bx; obtain ⟨a0, a1, a2, a3⟩ := aq; obtain ⟨⟨e0, e1, e2, e3⟩, g0, g1, g2, g3⟩ := cells4 bd))
  go_ret
  exact ⟨rfl, kx⟩
end
section
set_option maxHeartbeats 4000000 in
set_option maxRecDepth 100000 in
theorem back_walk (A B : Option Addr) (n m c c' : Nat) (s t : Int) (l r : List Int) (S : List UInt8) (w : World) (hA : Arg w A n c l) (hB : Arg w B m c' r) (hG : G w) (hT : HTab w) :
    Calls Tryd.prog 5 #[.agg #[.int .i64 s, .slice A n c, .int .i64 t, .slice B m c'], tv S] w fun e w' => e = .returned (.bool true) ∧ Ext w w' := by
  cases hr : rightB ⟨s, l.take 20, t, r.take 20⟩ <;> cases hp : parseP (S.take 200)
  · exact back_nn A B n m c c' s t l r S w hA hB hG hT hr hp
  · rename_i b; exact back_ns A B n m c c' s t l r S w hA hB hG hT hr b.size b.elem b.ptrs b.eptrs hp
  · exact back_rn A B n m c c' s t l r S w hA hB hG hT hr hp
  · rename_i b; exact back_rs A B n m c c' s t l r S w hA hB hG hT hr b.size b.elem b.ptrs b.eptrs hp
end
end Go.Proofs.YtgmpcinlkiiboaaDoor
