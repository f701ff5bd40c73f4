/- selionlaw06.HeadByte. -/
import Derived.Test.YtfpefffgegphnaaDoorLawApart
import Derived.Test.YtfpefffgegphnaaDoorRefE
import Derived.Test.YtfpefffgegphnaaDoorRefN
import Derived.Test.YtfpefffgegphnaaDoorDraw2
namespace Go.Proofs.YtfpefffgegphnaaDoor
open Go.RowKit Go
namespace H
open HD
/-- the bytes, with the k-th one another one -/
def flip (m : MkR) (k : Nat) (d : UInt8) : List UInt8 := (encS m).set k ((encS m).getD k 0 ^^^ d)
theorem flip_no (m : MkR) (k : Nat) (d : UInt8) (hk : k < 8) (hd : d ≠ 0) : decM (flip m k d) = zM ∧ decE (flip m k d) = 60 := by
  unfold decM decE
  rw [show okD (flip m k d) = false from dec_flip m k d hk hd]
  exact ⟨rfl, rfl⟩
theorem flip_parts (m : MkR) (k : Nat) (d : UInt8) (hk : k < 8) : (⟨(flip m k d).toArray⟩ : ByteArray) = (⟨((encS m).take k).toArray⟩ ++ ⟨#[(encS m).getD k 0 ^^^ d]⟩) ++ ⟨((encS m).drop (k + 1)).toArray⟩ := by
  have hl : k < (encS m).length := by rw [enc_len]; exact hk
  apply ByteArray.ext
  rw [ByteArray.data_append, ByteArray.data_append]
  simp [flip, List.set_eq_take_append_cons_drop, hl]
section
variable {a b : Nat → Addr}
theorem text1_at (y : UInt8) (g : Nat) (W : World) (h : Blk W g #[.int .u8 (y.toNat : Int)] 5) : (convert 47 9 (.slice (some ⟨g, 0, none⟩) 1 1)).run Tryd.prog W = .ok (.string ⟨#[y]⟩) W :=
  run_text_of (P := Tryd.prog) W 47 9 5 (some ⟨g, 0, none⟩) 1 1 0 g [y] 5 Tryd.underlying47 Tryd.underlying5 Tryd.underlying9 h (fun _ => rfl) (by show 0 + 1 ≤ 1; decide)
theorem xor_byte (m : MkR) (k : Nat) (d : Int) (hd0 : 1 ≤ d) (hd1 : d ≤ 255) : bits .xor .u8 (bAt (encS m) k) d = (((encS m).getD k 0 ^^^ u8 d).toNat : Int) := by
  have e : d = ((u8 d).toNat : Int) := by rw [u8_nat]; omega
  show bits .xor .u8 (((encS m).getD k 0).toNat : Int) d = _
  rw [e, xor8, ← e]
theorem ext_take (l : List UInt8) (k : Nat) : (⟨l.toArray⟩ : ByteArray).extract 0 k = ⟨(l.take k).toArray⟩ := by
  apply ByteArray.ext
  rw [ByteArray.data_extract]
  simp
theorem ext_drop (l : List UInt8) (k : Nat) (h : l.length = 8) : (⟨l.toArray⟩ : ByteArray).extract k 8 = ⟨(l.drop k).toArray⟩ := by
  apply ByteArray.ext
  rw [ByteArray.data_extract]
  apply Array.toList_inj.1
  simp
  rw [List.take_of_length_le (by rw [List.length_drop]; omega)]
theorem cells_Z {W : World} {B : Nat} {t : TypeId} (h : Blk W B #[.int .i64 0, .int .i64 0, .int .i64 0, .int .i64 0] t) : W.cell? ⟨B, 0, none⟩ = some (.int .i64 0) ∧ W.cell? ⟨B, 1, none⟩ = some (.int .i64 0) ∧ W.cell? ⟨B, 2, none⟩ = some (.int .i64 0) ∧ W.cell? ⟨B, 3, none⟩ = some (.int .i64 0) :=
  ⟨h.cell 0, h.cell 1, h.cell 2, h.cell 3⟩
set_option maxHeartbeats 2000000 in
set_option maxRecDepth 100000 in
theorem byte_main (m : MkR) (h1 : rightM m = true) (k : Nat) (hk : k < 8) (d : Int) (hd0 : 1 ≤ d) (hd1 : d ≤ 255) (w : World) (hG : G a b w) :
    Calls Tryd.prog 6 #[mkV m, .int .i64 (k : Int), .int .i64 d] w fun e w' => e = .returned (.bool true) ∧ Ext w w' := by
  have E1 := ext1 w (.cells (mkC m) 23)
  have b1 := Blk.new w (mkC m) 23
  have S := Lib.hid (shown_is _ (hG.ext E1))
  have C1 := Lib.hid (fun W (hW : Ext w W) => encode_is m W (hG.ext hW))
  rw [(enc_of_ok h1).1, (enc_of_ok h1).2] at C1
  have D' := fun W (hW : Ext w W) => decode_is (flip m k (u8 d)) W (hG.ext hW)
  have hu : u8 d ≠ 0 := fun e => by have := u8_nat d; rw [e] at this; simp at this; omega
  obtain ⟨f1, f2⟩ := flip_no m k (u8 d) hk hu
  rw [f1, f2, flip_parts m k (u8 d) hk] at D'
  have D := Lib.hid (show ∀ W, Ext w W → Calls Tryd.prog 12 #[.string ((⟨((encS m).take k).toArray⟩ ++ ⟨#[(encS m).getD k 0 ^^^ u8 d]⟩) ++ ⟨((encS m).drop (k + 1)).toArray⟩)] W fun e w' => e = .returned (.tuple #[.agg #[.int .i64 0, .int .i64 0, .int .i64 0, .int .i64 0], .int .i64 60]) ∧ Ext W w' from D')
  clear D'
  obtain ⟨X, hX⟩ : ∃ X : ByteArray, ⟨(encS m).toArray⟩ = X := ⟨_, rfl⟩
  have idx := fun W => idx_at hX (k := k) (by rw [enc_len]; exact hk) W
  have sx := size_enc hX
  have kd0 : (0 : Int) ≤ k := by omega
  have kd8 : (k : Int) < 8 := by omega
  have kk1 : ¬ (8 : Int) ≤ k := by omega
  have kl8 : (k : Int) ≤ 8 := by omega
  have kl9 : (k : Int) + 1 ≤ 8 := by omega
  have kt : ((k : Int) + 1).toNat = k + 1 := by omega
  have dw : IntKind.u8.wrap d = d := by simp only [IntKind.wrap, IntKind.signed, IntKind.bits]; simp; omega
  have HE := Lib.hid (And.intro E1 b1)
  have e1 : (⟨((encS m).take k).toArray⟩ : ByteArray) = X.extract 0 k := by rw [← hX]; exact (ext_take _ _).symm
  have e2 : (⟨((encS m).drop (k + 1)).toArray⟩ : ByteArray) = X.extract (k + 1) 8 := by rw [← hX]; exact (ext_drop _ _ (enc_len m)).symm
  have s1 : (X.extract 0 k).size = k := by rw [← e1]; show ((encS m).take k).toArray.size = k; simp [enc_len]; omega
  have s2 : (X.extract (k + 1) 8).size = 8 - (k + 1) := by rw [← e2]; show ((encS m).drop (k + 1)).toArray.size = _; simp [enc_len]
  have xb := xor_byte m k d hd0 hd1
  have K1 := Lib.hid (fun g W h => text1_at ((encS m).getD k 0 ^^^ u8 d) g W h)
  rw [e1, e2] at D
  rw [hX] at C1
  obtain ⟨Y, hY⟩ : ∃ Y : ByteArray, ⟨#[(encS m).getD k 0 ^^^ u8 d]⟩ = Y := ⟨_, rfl⟩
  have sy : Y.size = 1 := by rw [← hY]; rfl
  rw [hY] at D K1
  obtain ⟨y, hy⟩ : ∃ y : Int, (((encS m).getD k 0 ^^^ u8 d).toNat : Int) = y := ⟨_, rfl⟩
  rw [hy] at xb K1
  have s3 : (X.extract 0 k ++ Y).size = k + 1 := by rw [ByteArray.size_append, s1, sy]
  clear hG h1 E1 b1 f1 f2 hu e1 e2 hY hy
  obtain ⟨z, hz⟩ : ∃ z, bAt (encS m) k = z := ⟨_, rfl⟩
  rw [hz] at idx xb
  clear hz hX
  go_enter Tryd.func6, Tryd.ntmps6
  go_wp2_with (first | (go_at_call 9; refine S.out.mono ?_; rintro e w1 ⟨rfl, h1⟩; obtain ⟨p0, p1, p2, p3⟩ := cells_mk (HE.out.2.ext h1); clear S) | (go_at_call 10; refine (C1.out _ (Ext.trans HE.out.1 h1)).mono ?_; rintro e w2 ⟨rfl, h2⟩; replace h2 := Ext.trans h1 h2; clear p0 p1 p2 p3 C1))
  refine wp_region_XT2 24 23 rfl (by kernel_rfl) (by kernel_rfl) ?_
  intro HD
  refine wpH2_segL HD 0 9 14 rfl rfl (Ext.refl _) (by kernel_rfl) ?_
  apply Exists.intro
  refine ⟨fun c => ?_, ?_⟩
  · have hx := fun (o : From c.w) p h => From.cell2 c.h o p h
    simp only [List.take_succ_cons, List.take_zero, List.drop_zero]
    repeat (go_big_quiet_step (fail))
    exact wpQuiet_nil rfl
  refine wpH2_segL HD 12 4 10 rfl rfl (Ext.refl _) (by kernel_rfl) ?_
  apply Exists.intro
  refine ⟨fun c => ?_, ?_⟩
  · have hx := fun (o : From c.w) p h => From.cell2 c.h o p h
    simp only [List.take_succ_cons, List.take_zero, List.drop_succ_cons, List.drop_zero]
    repeat (go_big_quiet_step (fail))
    exact wpQuiet_nil rfl
  refine wpH2_twoL 9 21 9 rfl rfl rfl rfl rfl (by kernel_rfl) ?_ ?_
  · intro V1 hV1 K hK
    go_simp
    have X1 := Ext.trans (Ext.refl w2) (Ext.trans hV1 (ext1 V1 (.cells #[.int .u8 y] 5)))
    have B1 := Blk.new V1 #[.int .u8 y] 5
    refine hK.out _ _ X1 ?_
    clear hK K
    refine wpH2_twoL 10 21 8 rfl rfl rfl rfl rfl (by kernel_rfl) ?_ ?_
    · intro V2 hV2 K hK
      have kc := K1.out _ _ (B1.ext hV2)
      go_simp
      clear kc
      have X2 := Ext.trans X1 hV2
      refine hK.out _ _ X2 ?_
      clear hK K
      refine wpH2_segL HD 11 1 7 rfl rfl X2 (by kernel_rfl) ?_
      apply Exists.intro
      refine ⟨fun c => ?_, ?_⟩
      · simp only [List.take_succ_cons, List.take_zero, List.drop_succ_cons, List.drop_zero]
        repeat (go_big_quiet_step (fail))
        exact wpQuiet_nil rfl
      refine wpH2_segL HD 16 1 6 rfl rfl X2 (by kernel_rfl) ?_
      apply Exists.intro
      refine ⟨fun c => ?_, ?_⟩
      · simp only [List.take_succ_cons, List.take_zero, List.drop_succ_cons, List.drop_zero]
        repeat (go_big_quiet_step (fail))
        exact wpQuiet_nil rfl
      refine wpH2_twoL 17 21 5 rfl rfl rfl rfl rfl (by kernel_rfl) ?_ ?_
      · intro V3 hV3 K hK
        go_simp
        refine (D.out V3 (Ext.trans HE.out.1 (Ext.trans h2 (Ext.trans X2 hV3)))).mono ?_
        rintro e U3 ⟨rfl, g3⟩
        have X3 := Ext.trans X2 (Ext.trans hV3 g3)
        refine hK.out _ _ X3 ?_
        clear hK K
        refine wpH2_segL HD 18 3 2 rfl rfl X3 (by kernel_rfl) ?_
        apply Exists.intro
        refine ⟨fun c => ?_, ?_⟩
        · simp only [List.take_succ_cons, List.take_zero, List.drop_succ_cons, List.drop_zero]
          repeat (go_big_quiet_step (fail))
          exact wpQuiet_nil rfl
        refine wpH2_stepL 21 1 rfl rfl rfl (by kernel_rfl) ?_
        intro V4 hV4 K hK
        have HLV4 := Lib.hid (show w2.heap.size ≤ V4.heap.size from (Ext.trans X3 hV4).size)
        go_simp
        have X4 := Ext.trans X3 (Ext.trans hV4 (ext1 V4 (.cells #[.int .i64 0, .int .i64 0, .int .i64 0, .int .i64 0] 23)))
        have Z4 := Blk.new V4 #[.int .i64 0, .int .i64 0, .int .i64 0, .int .i64 0] 23
        refine hK.out _ _ X4 ?_
        clear hK K
        refine wpH2_stepL 22 0 rfl rfl rfl (by kernel_rfl) ?_
        intro V5 hV5 K hK
        have hB := Z4.ext hV5
        obtain ⟨t0, t1, t2, t3⟩ := cells_Z hB
        have f0 := hB.frozen 0
        have f1 := hB.frozen 1
        have f2 := hB.frozen 2
        have f3 := hB.frozen 3
        go_simp
        have hX := ext_set4 (v0 := .int .i64 0) (v1 := .int .i64 0) (v2 := .int .i64 0) (v3 := .int .i64 0) (Ext.trans X4 hV5) (B := V4.heap.size) (by have := HLV4.out; omega)
        have hB4 := set4 (v0 := .int .i64 0) (v1 := .int .i64 0) (v2 := .int .i64 0) (v3 := .int .i64 0) hB
        refine hK.out _ _ hX ?_
        clear hK K t0 t1 t2 t3 f0 f1 f2 f3
        refine wpH2_end (fun U hU => ⟨by kernel_rfl, ?_⟩)
        have hB5 := hB4.ext hU
        obtain ⟨t0, t1, t2, t3⟩ := cells_Z hB5
        have hEnd := Lib.hid (Ext.trans HE.out.1 (Ext.trans h2 (Ext.trans hX hU)))
        simp only [List.drop_succ_cons, List.drop_zero]
        clear hX hB4 hB5 hU hB HD
        go_wp2
        go_ret
        exact ⟨rfl, hEnd.out⟩
      · intro V3 hV3 K hK
        have HLV3 := Lib.hid (show w2.heap.size ≤ V3.heap.size from (Ext.trans X2 hV3).size)
        go_simp
        have X3 := Ext.trans X2 (Ext.trans hV3 (ext1 V3 (.cells #[.int .i64 0, .int .i64 0, .int .i64 0, .int .i64 0] 23)))
        have Z3 := Blk.new V3 #[.int .i64 0, .int .i64 0, .int .i64 0, .int .i64 0] 23
        refine hK.out _ _ X3 ?_
        clear hK K
        refine wpH2_stepL 17 4 rfl rfl rfl (by kernel_rfl) ?_
        intro V4 hV4 K hK
        go_simp
        refine (D.out V4 (Ext.trans HE.out.1 (Ext.trans h2 (Ext.trans X3 hV4)))).mono ?_
        rintro e U4 ⟨rfl, g4⟩
        have X4 := Ext.trans X3 (Ext.trans hV4 g4)
        have T4 := Z3.ext (Ext.trans hV4 g4)
        refine hK.out _ _ X4 ?_
        clear hK K
        refine wpH2_segL HD 18 3 1 rfl rfl X4 (by kernel_rfl) ?_
        apply Exists.intro
        refine ⟨fun c => ?_, ?_⟩
        · simp only [List.take_succ_cons, List.take_zero, List.drop_succ_cons, List.drop_zero]
          repeat (go_big_quiet_step (fail))
          exact wpQuiet_nil rfl
        refine wpH2_stepL 22 0 rfl rfl rfl (by kernel_rfl) ?_
        intro V5 hV5 K hK
        have hB := T4.ext hV5
        obtain ⟨t0, t1, t2, t3⟩ := cells_Z hB
        have f0 := hB.frozen 0
        have f1 := hB.frozen 1
        have f2 := hB.frozen 2
        have f3 := hB.frozen 3
        go_simp
        have hX := ext_set4 (v0 := .int .i64 0) (v1 := .int .i64 0) (v2 := .int .i64 0) (v3 := .int .i64 0) (Ext.trans X4 hV5) (B := V3.heap.size) (by have := HLV3.out; omega)
        have hB4 := set4 (v0 := .int .i64 0) (v1 := .int .i64 0) (v2 := .int .i64 0) (v3 := .int .i64 0) hB
        refine hK.out _ _ hX ?_
        clear hK K t0 t1 t2 t3 f0 f1 f2 f3
        refine wpH2_end (fun U hU => ⟨by kernel_rfl, ?_⟩)
        have hB5 := hB4.ext hU
        obtain ⟨t0, t1, t2, t3⟩ := cells_Z hB5
        have hEnd := Lib.hid (Ext.trans HE.out.1 (Ext.trans h2 (Ext.trans hX hU)))
        simp only [List.drop_succ_cons, List.drop_zero]
        clear hX hB4 hB5 hU hB HD
        go_wp2
        go_ret
        exact ⟨rfl, hEnd.out⟩
    · intro V2 hV2 K hK
      have HLV2 := Lib.hid (show w2.heap.size ≤ V2.heap.size from (Ext.trans X1 hV2).size)
      go_simp
      have X2 := Ext.trans X1 (Ext.trans hV2 (ext1 V2 (.cells #[.int .i64 0, .int .i64 0, .int .i64 0, .int .i64 0] 23)))
      have Y2 := B1.ext (Ext.trans hV2 (ext1 V2 (.cells #[.int .i64 0, .int .i64 0, .int .i64 0, .int .i64 0] 23)))
      have Z2 := Blk.new V2 #[.int .i64 0, .int .i64 0, .int .i64 0, .int .i64 0] 23
      refine hK.out _ _ X2 ?_
      clear hK K
      refine wpH2_stepL 10 7 rfl rfl rfl (by kernel_rfl) ?_
      intro V3 hV3 K hK
      have kc := K1.out _ _ (Y2.ext hV3)
      go_simp
      clear kc
      have X3 := Ext.trans X2 hV3
      have T3 := Z2.ext hV3
      refine hK.out _ _ X3 ?_
      clear hK K
      refine wpH2_segL HD 11 1 6 rfl rfl X3 (by kernel_rfl) ?_
      apply Exists.intro
      refine ⟨fun c => ?_, ?_⟩
      · simp only [List.take_succ_cons, List.take_zero, List.drop_succ_cons, List.drop_zero]
        repeat (go_big_quiet_step (fail))
        exact wpQuiet_nil rfl
      refine wpH2_segL HD 16 1 5 rfl rfl X3 (by kernel_rfl) ?_
      apply Exists.intro
      refine ⟨fun c => ?_, ?_⟩
      · simp only [List.take_succ_cons, List.take_zero, List.drop_succ_cons, List.drop_zero]
        repeat (go_big_quiet_step (fail))
        exact wpQuiet_nil rfl
      refine wpH2_stepL 17 4 rfl rfl rfl (by kernel_rfl) ?_
      intro V4 hV4 K hK
      go_simp
      refine (D.out V4 (Ext.trans HE.out.1 (Ext.trans h2 (Ext.trans X3 hV4)))).mono ?_
      rintro e U4 ⟨rfl, g4⟩
      have X4 := Ext.trans X3 (Ext.trans hV4 g4)
      have T4 := T3.ext (Ext.trans hV4 g4)
      refine hK.out _ _ X4 ?_
      clear hK K
      refine wpH2_segL HD 18 3 1 rfl rfl X4 (by kernel_rfl) ?_
      apply Exists.intro
      refine ⟨fun c => ?_, ?_⟩
      · simp only [List.take_succ_cons, List.take_zero, List.drop_succ_cons, List.drop_zero]
        repeat (go_big_quiet_step (fail))
        exact wpQuiet_nil rfl
      refine wpH2_stepL 22 0 rfl rfl rfl (by kernel_rfl) ?_
      intro V5 hV5 K hK
      have hB := T4.ext hV5
      obtain ⟨t0, t1, t2, t3⟩ := cells_Z hB
      have f0 := hB.frozen 0
      have f1 := hB.frozen 1
      have f2 := hB.frozen 2
      have f3 := hB.frozen 3
      go_simp
      have hX := ext_set4 (v0 := .int .i64 0) (v1 := .int .i64 0) (v2 := .int .i64 0) (v3 := .int .i64 0) (Ext.trans X4 hV5) (B := V2.heap.size) (by have := HLV2.out; omega)
      have hB4 := set4 (v0 := .int .i64 0) (v1 := .int .i64 0) (v2 := .int .i64 0) (v3 := .int .i64 0) hB
      refine hK.out _ _ hX ?_
      clear hK K t0 t1 t2 t3 f0 f1 f2 f3
      refine wpH2_end (fun U hU => ⟨by kernel_rfl, ?_⟩)
      have hB5 := hB4.ext hU
      obtain ⟨t0, t1, t2, t3⟩ := cells_Z hB5
      have hEnd := Lib.hid (Ext.trans HE.out.1 (Ext.trans h2 (Ext.trans hX hU)))
      simp only [List.drop_succ_cons, List.drop_zero]
      clear hX hB4 hB5 hU hB HD
      go_wp2
      go_ret
      exact ⟨rfl, hEnd.out⟩
  · intro V1 hV1 K hK
    have HLV1 := Lib.hid (show w2.heap.size ≤ V1.heap.size from (Ext.trans (Ext.refl w2) hV1).size)
    go_simp
    have X1 := Ext.trans (Ext.refl w2) (Ext.trans hV1 (ext1 V1 (.cells #[.int .i64 0, .int .i64 0, .int .i64 0, .int .i64 0] 23)))
    have Z1 := Blk.new V1 #[.int .i64 0, .int .i64 0, .int .i64 0, .int .i64 0] 23
    refine hK.out _ _ X1 ?_
    clear hK K
    refine wpH2_stepL 9 8 rfl rfl rfl (by kernel_rfl) ?_
    intro V2 hV2 K hK
    go_simp
    have X2 := Ext.trans X1 (Ext.trans hV2 (ext1 V2 (.cells #[.int .u8 y] 5)))
    have T2 := Z1.ext (Ext.trans hV2 (ext1 V2 (.cells #[.int .u8 y] 5)))
    have B2 := Blk.new V2 #[.int .u8 y] 5
    refine hK.out _ _ X2 ?_
    clear hK K
    refine wpH2_stepL 10 7 rfl rfl rfl (by kernel_rfl) ?_
    intro V3 hV3 K hK
    have kc := K1.out _ _ (B2.ext hV3)
    go_simp
    clear kc
    have X3 := Ext.trans X2 hV3
    have T3 := T2.ext hV3
    refine hK.out _ _ X3 ?_
    clear hK K
    refine wpH2_segL HD 11 1 6 rfl rfl X3 (by kernel_rfl) ?_
    apply Exists.intro
    refine ⟨fun c => ?_, ?_⟩
    · simp only [List.take_succ_cons, List.take_zero, List.drop_succ_cons, List.drop_zero]
      repeat (go_big_quiet_step (fail))
      exact wpQuiet_nil rfl
    refine wpH2_segL HD 16 1 5 rfl rfl X3 (by kernel_rfl) ?_
    apply Exists.intro
    refine ⟨fun c => ?_, ?_⟩
    · simp only [List.take_succ_cons, List.take_zero, List.drop_succ_cons, List.drop_zero]
      repeat (go_big_quiet_step (fail))
      exact wpQuiet_nil rfl
    refine wpH2_stepL 17 4 rfl rfl rfl (by kernel_rfl) ?_
    intro V4 hV4 K hK
    go_simp
    refine (D.out V4 (Ext.trans HE.out.1 (Ext.trans h2 (Ext.trans X3 hV4)))).mono ?_
    rintro e U4 ⟨rfl, g4⟩
    have X4 := Ext.trans X3 (Ext.trans hV4 g4)
    have T4 := T3.ext (Ext.trans hV4 g4)
    refine hK.out _ _ X4 ?_
    clear hK K
    refine wpH2_segL HD 18 3 1 rfl rfl X4 (by kernel_rfl) ?_
    apply Exists.intro
    refine ⟨fun c => ?_, ?_⟩
    · simp only [List.take_succ_cons, List.take_zero, List.drop_succ_cons, List.drop_zero]
      repeat (go_big_quiet_step (fail))
      exact wpQuiet_nil rfl
    refine wpH2_stepL 22 0 rfl rfl rfl (by kernel_rfl) ?_
    intro V5 hV5 K hK
    have hB := T4.ext hV5
    obtain ⟨t0, t1, t2, t3⟩ := cells_Z hB
    have f0 := hB.frozen 0
    have f1 := hB.frozen 1
    have f2 := hB.frozen 2
    have f3 := hB.frozen 3
    go_simp
    have hX := ext_set4 (v0 := .int .i64 0) (v1 := .int .i64 0) (v2 := .int .i64 0) (v3 := .int .i64 0) (Ext.trans X4 hV5) (B := V1.heap.size) (by have := HLV1.out; omega)
    have hB4 := set4 (v0 := .int .i64 0) (v1 := .int .i64 0) (v2 := .int .i64 0) (v3 := .int .i64 0) hB
    refine hK.out _ _ hX ?_
    clear hK K t0 t1 t2 t3 f0 f1 f2 f3
    refine wpH2_end (fun U hU => ⟨by kernel_rfl, ?_⟩)
    have hB5 := hB4.ext hU
    obtain ⟨t0, t1, t2, t3⟩ := cells_Z hB5
    have hEnd := Lib.hid (Ext.trans HE.out.1 (Ext.trans h2 (Ext.trans hX hU)))
    simp only [List.drop_succ_cons, List.drop_zero]
    clear hX hB4 hB5 hU hB HD
    go_wp2
    go_ret
    exact ⟨rfl, hEnd.out⟩
set_option maxHeartbeats 1000000 in
theorem byte_bad (m : MkR) (h1 : rightM m = false) (x d : Int) (w : World) (hG : G a b w) :
    Calls Tryd.prog 6 #[mkV m, .int .i64 x, .int .i64 d] w fun e w' => e = .returned (.bool true) ∧ Ext w w' := by
  have E1 := ext1 w (.cells (mkC m) 23)
  have b1 := Blk.new w (mkC m) 23
  have S := Lib.hid (shown_is _ (hG.ext E1))
  have C1 := Lib.hid (fun W (hW : Ext w W) => encode_is m W (hG.ext hW))
  have HE := Lib.hid (And.intro E1 b1)
  rw [(enc_of_no h1).1, (enc_of_no h1).2] at C1
  clear hG h1 E1 b1
  go_enter Tryd.func6, Tryd.ntmps6
  go_wp2_with (first | (go_at_call 9; refine S.out.mono ?_; rintro e w1 ⟨rfl, h1⟩; obtain ⟨p0, p1, p2, p3⟩ := cells_mk (HE.out.2.ext h1); clear S) | (go_at_call 10; refine (C1.out _ (Ext.trans HE.out.1 h1)).mono ?_; rintro e w2 ⟨rfl, h2⟩; replace h2 := Ext.trans h1 h2; clear p0 p1 p2 p3 C1))
  go_ret
  exact ⟨rfl, Ext.trans HE.out.1 h2⟩
set_option maxHeartbeats 1000000 in
theorem byte_out (m : MkR) (h1 : rightM m = true) (x d : Int) (h : x < 0 ∨ 8 ≤ x ∨ d < 1 ∨ 255 < d) (w : World) (hG : G a b w) :
    Calls Tryd.prog 6 #[mkV m, .int .i64 x, .int .i64 d] w fun e w' => e = .returned (.bool true) ∧ Ext w w' := by
  have E1 := ext1 w (.cells (mkC m) 23)
  have b1 := Blk.new w (mkC m) 23
  have S := Lib.hid (shown_is _ (hG.ext E1))
  have C1 := Lib.hid (fun W (hW : Ext w W) => encode_is m W (hG.ext hW))
  have HE := Lib.hid (And.intro E1 b1)
  rw [(enc_of_ok h1).1, (enc_of_ok h1).2] at C1
  obtain ⟨X, hX⟩ : ∃ X : ByteArray, ⟨(encS m).toArray⟩ = X := ⟨_, rfl⟩
  have sx := size_enc hX
  rw [hX] at C1
  clear hG h1 E1 b1 hX
  by_cases a1 : x < 0
  · clear h
    go_enter Tryd.func6, Tryd.ntmps6
    go_wp2_with (first | (go_at_call 9; refine S.out.mono ?_; rintro e w1 ⟨rfl, h1⟩; obtain ⟨p0, p1, p2, p3⟩ := cells_mk (HE.out.2.ext h1); clear S) | (go_at_call 10; refine (C1.out _ (Ext.trans HE.out.1 h1)).mono ?_; rintro e w2 ⟨rfl, h2⟩; replace h2 := Ext.trans h1 h2; clear p0 p1 p2 p3 C1))
    go_ret
    exact ⟨rfl, Ext.trans HE.out.1 h2⟩
  · by_cases a2 : 8 ≤ x
    · clear h
      go_enter Tryd.func6, Tryd.ntmps6
      go_wp2_with (first | (go_at_call 9; refine S.out.mono ?_; rintro e w1 ⟨rfl, h1⟩; obtain ⟨p0, p1, p2, p3⟩ := cells_mk (HE.out.2.ext h1); clear S) | (go_at_call 10; refine (C1.out _ (Ext.trans HE.out.1 h1)).mono ?_; rintro e w2 ⟨rfl, h2⟩; replace h2 := Ext.trans h1 h2; clear p0 p1 p2 p3 C1))
      go_ret
      exact ⟨rfl, Ext.trans HE.out.1 h2⟩
    · by_cases a3 : d < 1
      · clear h
        go_enter Tryd.func6, Tryd.ntmps6
        go_wp2_with (first | (go_at_call 9; refine S.out.mono ?_; rintro e w1 ⟨rfl, h1⟩; obtain ⟨p0, p1, p2, p3⟩ := cells_mk (HE.out.2.ext h1); clear S) | (go_at_call 10; refine (C1.out _ (Ext.trans HE.out.1 h1)).mono ?_; rintro e w2 ⟨rfl, h2⟩; replace h2 := Ext.trans h1 h2; clear p0 p1 p2 p3 C1))
        go_ret
        exact ⟨rfl, Ext.trans HE.out.1 h2⟩
      · have a4 : 255 < d := by omega
        clear h
        go_enter Tryd.func6, Tryd.ntmps6
        go_wp2_with (first | (go_at_call 9; refine S.out.mono ?_; rintro e w1 ⟨rfl, h1⟩; obtain ⟨p0, p1, p2, p3⟩ := cells_mk (HE.out.2.ext h1); clear S) | (go_at_call 10; refine (C1.out _ (Ext.trans HE.out.1 h1)).mono ?_; rintro e w2 ⟨rfl, h2⟩; replace h2 := Ext.trans h1 h2; clear p0 p1 p2 p3 C1))
        go_ret
        exact ⟨rfl, Ext.trans HE.out.1 h2⟩
theorem byte_walk (m : MkR) (x d : Int) (w : World) (hG : G a b w) :
    Calls Tryd.prog 6 #[mkV m, .int .i64 x, .int .i64 d] w fun e w' => e = .returned (.bool true) ∧ Ext w w' := by
  rcases h1 : rightM m with _ | _
  · exact byte_bad m h1 x d w hG
  · by_cases h : x < 0 ∨ 8 ≤ x ∨ d < 1 ∨ 255 < d
    · exact byte_out m h1 x d h w hG
    · obtain ⟨k, rfl⟩ : ∃ k : Nat, x = k := ⟨x.toNat, by omega⟩
      exact byte_main m h1 k (by omega) d (by omega) (by omega) w hG
end
end H
end Go.Proofs.YtfpefffgegphnaaDoor
