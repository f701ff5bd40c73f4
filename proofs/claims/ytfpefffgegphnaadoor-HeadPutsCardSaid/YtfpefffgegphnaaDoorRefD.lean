/- The reference's heads: Decode. -/
import Derived.Test.YtfpefffgegphnaaDoorRefN
import Derived.Test.YtfpefffgegphnaaDoorDecH
import Derived.Test.YtfpefffgegphnaaDoorDraw2
import Derived.Test.YtfpefffgegphnaaDoorLawApart
namespace Go.Proofs.YtfpefffgegphnaaDoor
open Go.RowKit Go
namespace H
open HD
theorem dec_no {s : List UInt8} (hf : okD s = false) : decM s = zM ∧ decE s = 60 := by
  unfold decM decE
  rw [hf]
  exact ⟨rfl, rfl⟩
section
set_option maxHeartbeats 1000000 in
theorem rdecode_len (s : List UInt8) (h : s.length ≠ 8) (w : World) :
    Calls Tryd.prog 14 #[.string ⟨s.toArray⟩] w fun e w' => e = .returned (.tuple #[mkV zM, .int .i64 60]) ∧ Ext w w' := by
  have E1 := ext1 w (.cells (mkC zM) 23)
  obtain ⟨S, hS⟩ : ∃ S : ByteArray, ⟨s.toArray⟩ = S := ⟨_, rfl⟩
  have hsz : S.size = s.length := by rw [← hS]; show s.toArray.size = _; simp
  have h8 : ¬ (s.length : Int) = 8 := by omega
  rw [hS]
  clear hS h
  go_enter Tryd.func14, Tryd.ntmps14
  go_wp2
  exact bodyPost_ret (v := .tuple #[mkV zM, .int .i64 60]) (by simp [results, Tryd.results14, go_sem, zM]) rfl ⟨rfl, E1⟩
theorem cells_Z0 {W : World} {B : Nat} {t : TypeId} (h : Blk W B #[.int .i64 0, .int .i64 0, .int .i64 0, .int .i64 0] t) : W.cell? ⟨B, 0, none⟩ = some (.int .i64 0) ∧ W.cell? ⟨B, 1, none⟩ = some (.int .i64 0) ∧ W.cell? ⟨B, 2, none⟩ = some (.int .i64 0) ∧ W.cell? ⟨B, 3, none⟩ = some (.int .i64 0) :=
  ⟨h.cell 0, h.cell 1, h.cell 2, h.cell 3⟩
set_option maxHeartbeats 2000000 in
theorem rdecode_f (s : List UInt8) (h : s.length = 8) (hr : rightM (readM s) = false) (w : World) :
    Calls Tryd.prog 14 #[.string ⟨s.toArray⟩] w fun e w' => e = .returned (.tuple #[mkV (decM s), .int .i64 (decE s)]) ∧ Ext w w' := by
  have E1 := ext1 w (.cells #[.int .i64 0, .int .i64 0, .int .i64 0, .int .i64 0] 23)
  have b1 := Blk.new w #[.int .i64 0, .int .i64 0, .int .i64 0, .int .i64 0] 23
  obtain ⟨S, hS⟩ : ∃ S : ByteArray, ⟨s.toArray⟩ = S := ⟨_, rfl⟩
  have hsz : S.size = s.length := by rw [← hS]; show s.toArray.size = _; simp
  have h8 : (s.length : Int) = 8 := by omega
  have N0 := fun W => (show Calls Tryd.prog 11 #[.agg #[.int .i64 (bAt s 1), .int .i64 (bAt s 4 + 256 * bAt s 5 + 65536 * bAt s 6), .int .i64 (bAt s 2), .int .i64 (bAt s 3)]] W fun e w' => e = .returned (.tuple #[.string ⟨#[]⟩, .int .i64 60]) ∧ Ext W w' from rencode_no (readM s) hr W)
  have N := Lib.hid N0
  clear N0
  have i1 := fun W => (show (Instr.index 9 (.string S) (.int .i64 1)).run Tryd.prog W = .ok (.int .u8 (bAt s 1)) W from idx_at hS (k := 1) (by omega) W)
  have i2 := fun W => (show (Instr.index 9 (.string S) (.int .i64 2)).run Tryd.prog W = .ok (.int .u8 (bAt s 2)) W from idx_at hS (k := 2) (by omega) W)
  have i3 := fun W => (show (Instr.index 9 (.string S) (.int .i64 3)).run Tryd.prog W = .ok (.int .u8 (bAt s 3)) W from idx_at hS (k := 3) (by omega) W)
  have i4 := fun W => (show (Instr.index 9 (.string S) (.int .i64 4)).run Tryd.prog W = .ok (.int .u8 (bAt s 4)) W from idx_at hS (k := 4) (by omega) W)
  have i5 := fun W => (show (Instr.index 9 (.string S) (.int .i64 5)).run Tryd.prog W = .ok (.int .u8 (bAt s 5)) W from idx_at hS (k := 5) (by omega) W)
  have i6 := fun W => (show (Instr.index 9 (.string S) (.int .i64 6)).run Tryd.prog W = .ok (.int .u8 (bAt s 6)) W from idx_at hS (k := 6) (by omega) W)
  have HD' := Lib.hid (dec_no (s := s) (by unfold okD; rw [hr]; rfl))
  have HE := Lib.hid (And.intro E1 b1)
  rw [hS]
  have l := bAt_lo s
  have r := bAt_hi s
  have hM : readM s = ⟨bAt s 1, bAt s 4 + 256 * bAt s 5 + 65536 * bAt s 6, bAt s 2, bAt s 3⟩ := rfl
  have l1 := l 1; have l2 := l 2; have l3 := l 3; have l4 := l 4; have l5 := l 5; have l6 := l 6
  have r1 := r 1; have r2 := r 2; have r3 := r 3; have r4 := r 4; have r5 := r 5; have r6 := r 6
  clear hS h E1 b1 l r hM hr
  generalize bAt s 1 = z1 at *
  generalize bAt s 2 = z2 at *
  generalize bAt s 3 = z3 at *
  generalize bAt s 4 = z4 at *
  generalize bAt s 5 = z5 at *
  generalize bAt s 6 = z6 at *
  have w1 : wrap64 z1 = z1 := by unfold wrap64; omega
  have w2 : wrap64 z2 = z2 := by unfold wrap64; omega
  have w3 : wrap64 z3 = z3 := by unfold wrap64; omega
  have w4 : wrap64 z4 = z4 := by unfold wrap64; omega
  have w5 : wrap64 z5 = z5 := by unfold wrap64; omega
  have w6 : wrap64 z6 = z6 := by unfold wrap64; omega
  have w7 : wrap64 (256 * z5) = 256 * z5 := by unfold wrap64; omega
  have w8 : wrap64 (65536 * z6) = 65536 * z6 := by unfold wrap64; omega
  have w9 : wrap64 (z4 + 256 * z5) = z4 + 256 * z5 := by unfold wrap64; omega
  have w10 : wrap64 (z4 + 256 * z5 + 65536 * z6) = z4 + 256 * z5 + 65536 * z6 := by unfold wrap64; omega
  clear l1 l2 l3 l4 l5 l6 r1 r2 r3 r4 r5 r6
  go_enter Tryd.func14, Tryd.ntmps14
  go_wp2
  refine wp_world ?_
  intro w2 hw2
  have k2 : Ext (w.alloc (.cells #[.int .i64 0, .int .i64 0, .int .i64 0, .int .i64 0] 23)) w2 := by rw [hw2]; exact Ext.refl _
  clear hw2
  refine wp_region_XT2 25 24 rfl (by kernel_rfl) (by kernel_rfl) ?_
  intro HDD
  refine wpH2_segL HDD 0 23 1 rfl rfl (Ext.refl _) (by kernel_rfl) ?_
  apply Exists.intro
  refine ⟨fun c => ?_, ?_⟩
  · have hx := fun (o : From c.w) p h => From.cell2 c.h o p h
    simp only [List.take_succ_cons, List.take_zero, List.drop_zero]
    repeat (go_big_quiet_step (fail))
    exact wpQuiet_nil rfl
  refine wpH2_stepL 23 0 rfl rfl rfl (by kernel_rfl) ?_
  intro V hV K hK
  go_simp
  have X1 := Ext.trans hV (ext1 V (.cells #[.int .i64 0, .int .i64 0, .int .i64 0, .int .i64 0] 23))
  have hZ := Blk.new V #[.int .i64 0, .int .i64 0, .int .i64 0, .int .i64 0] 23
  refine hK.out _ _ X1 ?_
  clear hK K
  refine wpH2_end (fun U hU => ⟨by kernel_rfl, ?_⟩)
  have hB := hZ.ext hU
  obtain ⟨t0, t1, t2, t3⟩ := cells_Z0 hB
  have g0 := hB.frozen 0
  have g1 := hB.frozen 1
  have g2 := hB.frozen 2
  have g3 := hB.frozen 3
  have hB4 := set4 (v0 := .int .i64 z1) (v1 := .int .i64 (z4 + 256 * z5 + 65536 * z6)) (v2 := .int .i64 z2) (v3 := .int .i64 z3) hB
  have hX4 := ext_set4 (v0 := .int .i64 z1) (v1 := .int .i64 (z4 + 256 * z5 + 65536 * z6)) (v2 := .int .i64 z2) (v3 := .int .i64 z3) (Ext.trans X1 hU) (B := V.heap.size) hV.size
  have b0 := HE.out.2.ext (Ext.trans k2 hX4)
  have HB := Lib.hid (And.intro hB4 (And.intro b0 (Ext.trans HE.out.1 (Ext.trans k2 hX4))))
  clear hB4 hX4 b0 hB hZ hU X1 hV k2 HDD w1 w3 w4 w5 w6 w7 w8 w9 w10 i1 i2 i3 i4 i5 i6
  clear w2
  simp only [List.drop_succ_cons, List.drop_zero]
  go_wp2_with (first | (go_at_call 11; refine (N.out _).mono ?_; rintro e w3 ⟨rfl, h3⟩; have B3 := Lib.hid (And.intro (HB.out.2.1.ext h3) (Ext.trans HB.out.2.2 h3)); have b4 := HB.out.1.ext h3; have p0 := b4.cell 0; have p1 := b4.cell 1; have p2 := b4.cell 2; have p3 := b4.cell 3; obtain ⟨q0, q1, q2, q3⟩ := cells_Z0 B3.out.1; have f0 := B3.out.1.frozen 0; have f1 := B3.out.1.frozen 1; have f2 := B3.out.1.frozen 2; have f3 := B3.out.1.frozen 3; simp only [List.getElem?_toArray, List.getElem?_cons_zero, List.getElem?_cons_succ] at p0 p1 p2 p3; clear h3 b4))
  obtain ⟨s0, s1, s2, s3, hE⟩ := res_set4 (m := zM) (v0 := .int .i64 0) (v1 := .int .i64 0) (v2 := .int .i64 0) (v3 := .int .i64 0) B3.out.1 B3.out.2
  generalize (((w3.setCell ⟨w.heap.size, 0, none⟩ (.int .i64 0)).setCell ⟨w.heap.size, 1, none⟩ (.int .i64 0)).setCell ⟨w.heap.size, 2, none⟩ (.int .i64 0)).setCell ⟨w.heap.size, 3, none⟩ (.int .i64 0) = W4 at *
  exact bodyPost_ret (v := .tuple #[.agg #[.int .i64 0, .int .i64 0, .int .i64 0, .int .i64 0], .int .i64 60]) (by simp [results, Tryd.results14, go_sem, s0, s1, s2, s3]) rfl ⟨by rw [HD'.out.1, HD'.out.2]; rfl, hE⟩
set_option maxHeartbeats 2000000 in
theorem rdecode_tf (s : List UInt8) (h : s.length = 8) (hr : rightM (readM s) = true) (hq : decide (encS (readM s) = s) = false) (w : World) :
    Calls Tryd.prog 14 #[.string ⟨s.toArray⟩] w fun e w' => e = .returned (.tuple #[mkV (decM s), .int .i64 (decE s)]) ∧ Ext w w' := by
  have E1 := ext1 w (.cells #[.int .i64 0, .int .i64 0, .int .i64 0, .int .i64 0] 23)
  have b1 := Blk.new w #[.int .i64 0, .int .i64 0, .int .i64 0, .int .i64 0] 23
  obtain ⟨S, hS⟩ : ∃ S : ByteArray, ⟨s.toArray⟩ = S := ⟨_, rfl⟩
  have hsz : S.size = s.length := by rw [← hS]; show s.toArray.size = _; simp
  have h8 : (s.length : Int) = 8 := by omega
  have N0 := fun W => (show Calls Tryd.prog 11 #[.agg #[.int .i64 (bAt s 1), .int .i64 (bAt s 4 + 256 * bAt s 5 + 65536 * bAt s 6), .int .i64 (bAt s 2), .int .i64 (bAt s 3)]] W fun e w' => e = .returned (.tuple #[.string ⟨(encS (readM s)).toArray⟩, .int .i64 0]) ∧ Ext W w' from rencode_ok (readM s) hr W)
  obtain ⟨X, hX⟩ : ∃ X : ByteArray, ⟨(encS (readM s)).toArray⟩ = X := ⟨_, rfl⟩
  have eqs := eql_txt hX hS hq
  rw [hX] at N0
  clear hX
  have N := Lib.hid N0
  clear N0
  have i1 := fun W => (show (Instr.index 9 (.string S) (.int .i64 1)).run Tryd.prog W = .ok (.int .u8 (bAt s 1)) W from idx_at hS (k := 1) (by omega) W)
  have i2 := fun W => (show (Instr.index 9 (.string S) (.int .i64 2)).run Tryd.prog W = .ok (.int .u8 (bAt s 2)) W from idx_at hS (k := 2) (by omega) W)
  have i3 := fun W => (show (Instr.index 9 (.string S) (.int .i64 3)).run Tryd.prog W = .ok (.int .u8 (bAt s 3)) W from idx_at hS (k := 3) (by omega) W)
  have i4 := fun W => (show (Instr.index 9 (.string S) (.int .i64 4)).run Tryd.prog W = .ok (.int .u8 (bAt s 4)) W from idx_at hS (k := 4) (by omega) W)
  have i5 := fun W => (show (Instr.index 9 (.string S) (.int .i64 5)).run Tryd.prog W = .ok (.int .u8 (bAt s 5)) W from idx_at hS (k := 5) (by omega) W)
  have i6 := fun W => (show (Instr.index 9 (.string S) (.int .i64 6)).run Tryd.prog W = .ok (.int .u8 (bAt s 6)) W from idx_at hS (k := 6) (by omega) W)
  have HD' := Lib.hid (dec_no (s := s) (by unfold okD; rw [hr, hq]; rfl))
  have HE := Lib.hid (And.intro E1 b1)
  rw [hS]
  have l := bAt_lo s
  have r := bAt_hi s
  have hM : readM s = ⟨bAt s 1, bAt s 4 + 256 * bAt s 5 + 65536 * bAt s 6, bAt s 2, bAt s 3⟩ := rfl
  have l1 := l 1; have l2 := l 2; have l3 := l 3; have l4 := l 4; have l5 := l 5; have l6 := l 6
  have r1 := r 1; have r2 := r 2; have r3 := r 3; have r4 := r 4; have r5 := r 5; have r6 := r 6
  clear hS h E1 b1 l r hM hr hq
  generalize bAt s 1 = z1 at *
  generalize bAt s 2 = z2 at *
  generalize bAt s 3 = z3 at *
  generalize bAt s 4 = z4 at *
  generalize bAt s 5 = z5 at *
  generalize bAt s 6 = z6 at *
  have w1 : wrap64 z1 = z1 := by unfold wrap64; omega
  have w2 : wrap64 z2 = z2 := by unfold wrap64; omega
  have w3 : wrap64 z3 = z3 := by unfold wrap64; omega
  have w4 : wrap64 z4 = z4 := by unfold wrap64; omega
  have w5 : wrap64 z5 = z5 := by unfold wrap64; omega
  have w6 : wrap64 z6 = z6 := by unfold wrap64; omega
  have w7 : wrap64 (256 * z5) = 256 * z5 := by unfold wrap64; omega
  have w8 : wrap64 (65536 * z6) = 65536 * z6 := by unfold wrap64; omega
  have w9 : wrap64 (z4 + 256 * z5) = z4 + 256 * z5 := by unfold wrap64; omega
  have w10 : wrap64 (z4 + 256 * z5 + 65536 * z6) = z4 + 256 * z5 + 65536 * z6 := by unfold wrap64; omega
  clear l1 l2 l3 l4 l5 l6 r1 r2 r3 r4 r5 r6
  go_enter Tryd.func14, Tryd.ntmps14
  go_wp2
  refine wp_world ?_
  intro w2 hw2
  have k2 : Ext (w.alloc (.cells #[.int .i64 0, .int .i64 0, .int .i64 0, .int .i64 0] 23)) w2 := by rw [hw2]; exact Ext.refl _
  clear hw2
  refine wp_region_XT2 25 24 rfl (by kernel_rfl) (by kernel_rfl) ?_
  intro HDD
  refine wpH2_segL HDD 0 23 1 rfl rfl (Ext.refl _) (by kernel_rfl) ?_
  apply Exists.intro
  refine ⟨fun c => ?_, ?_⟩
  · have hx := fun (o : From c.w) p h => From.cell2 c.h o p h
    simp only [List.take_succ_cons, List.take_zero, List.drop_zero]
    repeat (go_big_quiet_step (fail))
    exact wpQuiet_nil rfl
  refine wpH2_stepL 23 0 rfl rfl rfl (by kernel_rfl) ?_
  intro V hV K hK
  go_simp
  have X1 := Ext.trans hV (ext1 V (.cells #[.int .i64 0, .int .i64 0, .int .i64 0, .int .i64 0] 23))
  have hZ := Blk.new V #[.int .i64 0, .int .i64 0, .int .i64 0, .int .i64 0] 23
  refine hK.out _ _ X1 ?_
  clear hK K
  refine wpH2_end (fun U hU => ⟨by kernel_rfl, ?_⟩)
  have hB := hZ.ext hU
  obtain ⟨t0, t1, t2, t3⟩ := cells_Z0 hB
  have g0 := hB.frozen 0
  have g1 := hB.frozen 1
  have g2 := hB.frozen 2
  have g3 := hB.frozen 3
  have hB4 := set4 (v0 := .int .i64 z1) (v1 := .int .i64 (z4 + 256 * z5 + 65536 * z6)) (v2 := .int .i64 z2) (v3 := .int .i64 z3) hB
  have hX4 := ext_set4 (v0 := .int .i64 z1) (v1 := .int .i64 (z4 + 256 * z5 + 65536 * z6)) (v2 := .int .i64 z2) (v3 := .int .i64 z3) (Ext.trans X1 hU) (B := V.heap.size) hV.size
  have b0 := HE.out.2.ext (Ext.trans k2 hX4)
  have HB := Lib.hid (And.intro hB4 (And.intro b0 (Ext.trans HE.out.1 (Ext.trans k2 hX4))))
  clear hB4 hX4 b0 hB hZ hU X1 hV k2 HDD w1 w3 w4 w5 w6 w7 w8 w9 w10 i1 i2 i3 i4 i5 i6
  clear w2
  simp only [List.drop_succ_cons, List.drop_zero]
  go_wp2_with (first | (go_at_call 11; refine (N.out _).mono ?_; rintro e w3 ⟨rfl, h3⟩; have B3 := Lib.hid (And.intro (HB.out.2.1.ext h3) (Ext.trans HB.out.2.2 h3)); have b4 := HB.out.1.ext h3; have p0 := b4.cell 0; have p1 := b4.cell 1; have p2 := b4.cell 2; have p3 := b4.cell 3; obtain ⟨q0, q1, q2, q3⟩ := cells_Z0 B3.out.1; have f0 := B3.out.1.frozen 0; have f1 := B3.out.1.frozen 1; have f2 := B3.out.1.frozen 2; have f3 := B3.out.1.frozen 3; simp only [List.getElem?_toArray, List.getElem?_cons_zero, List.getElem?_cons_succ] at p0 p1 p2 p3; clear h3 b4))
  obtain ⟨s0, s1, s2, s3, hE⟩ := res_set4 (m := zM) (v0 := .int .i64 0) (v1 := .int .i64 0) (v2 := .int .i64 0) (v3 := .int .i64 0) B3.out.1 B3.out.2
  generalize (((w3.setCell ⟨w.heap.size, 0, none⟩ (.int .i64 0)).setCell ⟨w.heap.size, 1, none⟩ (.int .i64 0)).setCell ⟨w.heap.size, 2, none⟩ (.int .i64 0)).setCell ⟨w.heap.size, 3, none⟩ (.int .i64 0) = W4 at *
  exact bodyPost_ret (v := .tuple #[.agg #[.int .i64 0, .int .i64 0, .int .i64 0, .int .i64 0], .int .i64 60]) (by simp [results, Tryd.results14, go_sem, s0, s1, s2, s3]) rfl ⟨by rw [HD'.out.1, HD'.out.2]; rfl, hE⟩
set_option maxHeartbeats 2000000 in
theorem rdecode_tt (s : List UInt8) (h : s.length = 8) (hr : rightM (readM s) = true) (hq : decide (encS (readM s) = s) = true) (w : World) :
    Calls Tryd.prog 14 #[.string ⟨s.toArray⟩] w fun e w' => e = .returned (.tuple #[mkV (decM s), .int .i64 (decE s)]) ∧ Ext w w' := by
  have E1 := ext1 w (.cells #[.int .i64 0, .int .i64 0, .int .i64 0, .int .i64 0] 23)
  have b1 := Blk.new w #[.int .i64 0, .int .i64 0, .int .i64 0, .int .i64 0] 23
  obtain ⟨S, hS⟩ : ∃ S : ByteArray, ⟨s.toArray⟩ = S := ⟨_, rfl⟩
  have hsz : S.size = s.length := by rw [← hS]; show s.toArray.size = _; simp
  have h8 : (s.length : Int) = 8 := by omega
  have N0 := fun W => (show Calls Tryd.prog 11 #[.agg #[.int .i64 (bAt s 1), .int .i64 (bAt s 4 + 256 * bAt s 5 + 65536 * bAt s 6), .int .i64 (bAt s 2), .int .i64 (bAt s 3)]] W fun e w' => e = .returned (.tuple #[.string ⟨(encS (readM s)).toArray⟩, .int .i64 0]) ∧ Ext W w' from rencode_ok (readM s) hr W)
  obtain ⟨X, hX⟩ : ∃ X : ByteArray, ⟨(encS (readM s)).toArray⟩ = X := ⟨_, rfl⟩
  have eqs := eql_txt hX hS hq
  rw [hX] at N0
  clear hX
  have N := Lib.hid N0
  clear N0
  have i1 := fun W => (show (Instr.index 9 (.string S) (.int .i64 1)).run Tryd.prog W = .ok (.int .u8 (bAt s 1)) W from idx_at hS (k := 1) (by omega) W)
  have i2 := fun W => (show (Instr.index 9 (.string S) (.int .i64 2)).run Tryd.prog W = .ok (.int .u8 (bAt s 2)) W from idx_at hS (k := 2) (by omega) W)
  have i3 := fun W => (show (Instr.index 9 (.string S) (.int .i64 3)).run Tryd.prog W = .ok (.int .u8 (bAt s 3)) W from idx_at hS (k := 3) (by omega) W)
  have i4 := fun W => (show (Instr.index 9 (.string S) (.int .i64 4)).run Tryd.prog W = .ok (.int .u8 (bAt s 4)) W from idx_at hS (k := 4) (by omega) W)
  have i5 := fun W => (show (Instr.index 9 (.string S) (.int .i64 5)).run Tryd.prog W = .ok (.int .u8 (bAt s 5)) W from idx_at hS (k := 5) (by omega) W)
  have i6 := fun W => (show (Instr.index 9 (.string S) (.int .i64 6)).run Tryd.prog W = .ok (.int .u8 (bAt s 6)) W from idx_at hS (k := 6) (by omega) W)
  have HD' := Lib.hid (show decM s = readM s ∧ decE s = 0 by unfold decM decE okD; rw [hr, hq]; exact ⟨rfl, rfl⟩)
  have HE := Lib.hid (And.intro E1 b1)
  rw [hS]
  have l := bAt_lo s
  have r := bAt_hi s
  have hM : readM s = ⟨bAt s 1, bAt s 4 + 256 * bAt s 5 + 65536 * bAt s 6, bAt s 2, bAt s 3⟩ := rfl
  have l1 := l 1; have l2 := l 2; have l3 := l 3; have l4 := l 4; have l5 := l 5; have l6 := l 6
  have r1 := r 1; have r2 := r 2; have r3 := r 3; have r4 := r 4; have r5 := r 5; have r6 := r 6
  rw [hM] at HD'
  clear hS h E1 b1 l r hM hr hq
  generalize bAt s 1 = z1 at *
  generalize bAt s 2 = z2 at *
  generalize bAt s 3 = z3 at *
  generalize bAt s 4 = z4 at *
  generalize bAt s 5 = z5 at *
  generalize bAt s 6 = z6 at *
  have w1 : wrap64 z1 = z1 := by unfold wrap64; omega
  have w2 : wrap64 z2 = z2 := by unfold wrap64; omega
  have w3 : wrap64 z3 = z3 := by unfold wrap64; omega
  have w4 : wrap64 z4 = z4 := by unfold wrap64; omega
  have w5 : wrap64 z5 = z5 := by unfold wrap64; omega
  have w6 : wrap64 z6 = z6 := by unfold wrap64; omega
  have w7 : wrap64 (256 * z5) = 256 * z5 := by unfold wrap64; omega
  have w8 : wrap64 (65536 * z6) = 65536 * z6 := by unfold wrap64; omega
  have w9 : wrap64 (z4 + 256 * z5) = z4 + 256 * z5 := by unfold wrap64; omega
  have w10 : wrap64 (z4 + 256 * z5 + 65536 * z6) = z4 + 256 * z5 + 65536 * z6 := by unfold wrap64; omega
  clear l1 l2 l3 l4 l5 l6 r1 r2 r3 r4 r5 r6
  go_enter Tryd.func14, Tryd.ntmps14
  go_wp2
  refine wp_world ?_
  intro w2 hw2
  have k2 : Ext (w.alloc (.cells #[.int .i64 0, .int .i64 0, .int .i64 0, .int .i64 0] 23)) w2 := by rw [hw2]; exact Ext.refl _
  clear hw2
  refine wp_region_XT2 25 24 rfl (by kernel_rfl) (by kernel_rfl) ?_
  intro HDD
  refine wpH2_segL HDD 0 23 1 rfl rfl (Ext.refl _) (by kernel_rfl) ?_
  apply Exists.intro
  refine ⟨fun c => ?_, ?_⟩
  · have hx := fun (o : From c.w) p h => From.cell2 c.h o p h
    simp only [List.take_succ_cons, List.take_zero, List.drop_zero]
    repeat (go_big_quiet_step (fail))
    exact wpQuiet_nil rfl
  refine wpH2_stepL 23 0 rfl rfl rfl (by kernel_rfl) ?_
  intro V hV K hK
  go_simp
  have X1 := Ext.trans hV (ext1 V (.cells #[.int .i64 0, .int .i64 0, .int .i64 0, .int .i64 0] 23))
  have hZ := Blk.new V #[.int .i64 0, .int .i64 0, .int .i64 0, .int .i64 0] 23
  refine hK.out _ _ X1 ?_
  clear hK K
  refine wpH2_end (fun U hU => ⟨by kernel_rfl, ?_⟩)
  have hB := hZ.ext hU
  obtain ⟨t0, t1, t2, t3⟩ := cells_Z0 hB
  have g0 := hB.frozen 0
  have g1 := hB.frozen 1
  have g2 := hB.frozen 2
  have g3 := hB.frozen 3
  have hB4 := set4 (v0 := .int .i64 z1) (v1 := .int .i64 (z4 + 256 * z5 + 65536 * z6)) (v2 := .int .i64 z2) (v3 := .int .i64 z3) hB
  have hX4 := ext_set4 (v0 := .int .i64 z1) (v1 := .int .i64 (z4 + 256 * z5 + 65536 * z6)) (v2 := .int .i64 z2) (v3 := .int .i64 z3) (Ext.trans X1 hU) (B := V.heap.size) hV.size
  have b0 := HE.out.2.ext (Ext.trans k2 hX4)
  have HB := Lib.hid (And.intro hB4 (And.intro b0 (Ext.trans HE.out.1 (Ext.trans k2 hX4))))
  clear hB4 hX4 b0 hB hZ hU X1 hV k2 HDD w1 w3 w4 w5 w6 w7 w8 w9 w10 i1 i2 i3 i4 i5 i6
  clear w2
  simp only [List.drop_succ_cons, List.drop_zero]
  go_wp2_with (first | (go_at_call 11; refine (N.out _).mono ?_; rintro e w3 ⟨rfl, h3⟩; have B3 := Lib.hid (And.intro (HB.out.2.1.ext h3) (Ext.trans HB.out.2.2 h3)); have b4 := HB.out.1.ext h3; have p0 := b4.cell 0; have p1 := b4.cell 1; have p2 := b4.cell 2; have p3 := b4.cell 3; obtain ⟨q0, q1, q2, q3⟩ := cells_Z0 B3.out.1; have f0 := B3.out.1.frozen 0; have f1 := B3.out.1.frozen 1; have f2 := B3.out.1.frozen 2; have f3 := B3.out.1.frozen 3; simp only [List.getElem?_toArray, List.getElem?_cons_zero, List.getElem?_cons_succ] at p0 p1 p2 p3; clear h3 b4))
  obtain ⟨s0, s1, s2, s3, hE⟩ := res_set4 (m := zM) (v0 := .int .i64 z1) (v1 := .int .i64 (z4 + 256 * z5 + 65536 * z6)) (v2 := .int .i64 z2) (v3 := .int .i64 z3) B3.out.1 B3.out.2
  generalize (((w3.setCell ⟨w.heap.size, 0, none⟩ (.int .i64 z1)).setCell ⟨w.heap.size, 1, none⟩ (.int .i64 (z4 + 256 * z5 + 65536 * z6))).setCell ⟨w.heap.size, 2, none⟩ (.int .i64 z2)).setCell ⟨w.heap.size, 3, none⟩ (.int .i64 z3) = W4 at *
  exact bodyPost_ret (v := .tuple #[.agg #[.int .i64 z1, .int .i64 (z4 + 256 * z5 + 65536 * z6), .int .i64 z2, .int .i64 z3], .int .i64 0]) (by simp [results, Tryd.results14, go_sem, s0, s1, s2, s3]) rfl ⟨by rw [HD'.out.1, HD'.out.2], hE⟩
theorem rdecode_8 (s : List UInt8) (h : s.length = 8) (w : World) :
    Calls Tryd.prog 14 #[.string ⟨s.toArray⟩] w fun e w' => e = .returned (.tuple #[mkV (decM s), .int .i64 (decE s)]) ∧ Ext w w' := by
  rcases hr : rightM (readM s) with _ | _
  · exact rdecode_f s h hr w
  · rcases hq : decide (encS (readM s) = s) with _ | _
    · exact rdecode_tf s h hr hq w
    · exact rdecode_tt s h hr hq w
theorem dec_len {s : List UInt8} (h : s.length ≠ 8) : decM s = zM ∧ decE s = 60 := dec_no (by rw [Bool.eq_false_iff]; exact fun k => h (ok_len k))
theorem rdecode_is (s : List UInt8) (w : World) : Calls Tryd.prog 14 #[.string ⟨s.toArray⟩] w fun e w' => e = .returned (.tuple #[mkV (decM s), .int .i64 (decE s)]) ∧ Ext w w' := by
  by_cases h : s.length = 8
  · exact rdecode_8 s h w
  · obtain ⟨e1, e2⟩ := dec_len h
    rw [e1, e2]
    exact rdecode_len s h w
end
end H
end Go.Proofs.YtfpefffgegphnaaDoor
