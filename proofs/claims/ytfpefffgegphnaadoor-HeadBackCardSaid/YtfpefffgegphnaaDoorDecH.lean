/- head: Decode (made by gen_dec.py). -/
import Derived.Test.YtfpefffgegphnaaDoorEncH
namespace Go.Proofs.YtfpefffgegphnaaDoor
open Go.RowKit Go
namespace H
open HD
theorem res_set4 {w X : World} {m : MkR} {t : TypeId} {v0 v1 v2 v3 : Value} (h : Blk X w.heap.size (mkC m) t) (k : Ext w X) :
    ((((X.setCell ⟨w.heap.size, 0, none⟩ v0).setCell ⟨w.heap.size, 1, none⟩ v1).setCell ⟨w.heap.size, 2, none⟩ v2).setCell ⟨w.heap.size, 3, none⟩ v3).cell? ⟨w.heap.size, 0, none⟩ = some v0 ∧
    ((((X.setCell ⟨w.heap.size, 0, none⟩ v0).setCell ⟨w.heap.size, 1, none⟩ v1).setCell ⟨w.heap.size, 2, none⟩ v2).setCell ⟨w.heap.size, 3, none⟩ v3).cell? ⟨w.heap.size, 1, none⟩ = some v1 ∧
    ((((X.setCell ⟨w.heap.size, 0, none⟩ v0).setCell ⟨w.heap.size, 1, none⟩ v1).setCell ⟨w.heap.size, 2, none⟩ v2).setCell ⟨w.heap.size, 3, none⟩ v3).cell? ⟨w.heap.size, 2, none⟩ = some v2 ∧
    ((((X.setCell ⟨w.heap.size, 0, none⟩ v0).setCell ⟨w.heap.size, 1, none⟩ v1).setCell ⟨w.heap.size, 2, none⟩ v2).setCell ⟨w.heap.size, 3, none⟩ v3).cell? ⟨w.heap.size, 3, none⟩ = some v3 ∧
    Ext w ((((X.setCell ⟨w.heap.size, 0, none⟩ v0).setCell ⟨w.heap.size, 1, none⟩ v1).setCell ⟨w.heap.size, 2, none⟩ v2).setCell ⟨w.heap.size, 3, none⟩ v3) := by
  have b := set4 (v0 := v0) (v1 := v1) (v2 := v2) (v3 := v3) h
  exact ⟨b.cell 0, b.cell 1, b.cell 2, b.cell 3, ext_set4 k (Nat.le_refl _)⟩
section
variable {a b : Nat → Addr}
set_option maxHeartbeats 1000000 in
theorem decode_tt (s : List UInt8) (hr : rightM (readM s) = true) (hq : decide (encS (readM s) = s) = true) (w : World) (hG : G a b w) :
    Calls Tryd.prog 12 #[.string ⟨s.toArray⟩] w fun e w' => e = .returned (.tuple #[mkV (readM s), .int .i64 0]) ∧ Ext w w' := by
  have R := Lib.hid (fun W (hW : Ext w W) => read_is s W (hG.ext hW).t)
  have NH := Lib.hid (fun W (hW : Ext w W) => noHead_ok (readM s) hr W (hG.ext hW))
  have NO := Lib.hid (fun W (hW : Ext w W) => (show Calls Tryd.prog 35 #[mkV (readM s), .string ⟨s.toArray⟩] W fun e w' => e = .returned (.nilIface) ∧ Ext W w' by have := notOf_is (readM s) (fit_read s) s W (hG.ext hW); rw [hq] at this; exact this))
  have T := Lib.hid (fun bb t W (hW : Ext w W) (hB : Blk W bb #[.nilIface, .nilIface] t) => tell2 (a := b) 0 0 (by decide) (by decide) 0 rfl bb t W (hG.ext hW).e hB)
  have E1 := ext1 w (.cells (mkC zM) 23)
  have b1 := Blk.new w (mkC zM) 23
  have HE := Lib.hid (And.intro E1 b1)
  clear hG hr hq E1 b1
  generalize readM s = M at *
  generalize (⟨s.toArray⟩ : ByteArray) = S at *
  go_enter Tryd.func12, Tryd.ntmps12
  go_wp2_with (first | (go_at_call 34; refine (R.out _ HE.out.1).mono ?_; rintro e w1 ⟨rfl, h1⟩; have K1 := Lib.hid h1; clear h1))
  refine wp_world ?_
  intro w2 hw2
  have k2 : Ext w1 w2 := by rw [hw2]; exact ext1 _ _
  have b2 : Blk w2 w1.heap.size (mkC M) 23 := by rw [hw2]; exact Blk.new _ _ _
  have hE2 := Ext.trans (Ext.trans HE.out.1 K1.out) k2
  have b0 := HE.out.2.ext (Ext.trans K1.out k2)
  obtain ⟨p0, p1, p2, p3⟩ := cells_mk b2
  have H2 := Lib.hid (And.intro hE2 (And.intro b2 b0))
  clear hw2 k2 b2 hE2 b0
  refine wp_region_tail 8 5 rfl (by kernel_rfl) (by kernel_rfl) (by kernel_rfl) ?_
  apply Exists.intro
  refine ⟨fun cc => ?_, fun W hW => ?_⟩
  · have hx := fun (o : From cc.w) p h => From.cell2 cc.h o p h
    simp only [List.take_succ_cons, List.take_zero]
    repeat (go_big_quiet_step ((first | (go_at_call 31; exact on_call (fun W hW => NH.out W (Ext.trans H2.out.1 (Ext.trans cc.h hW))) _) | (go_at_call 35; exact on_call (fun W hW => NO.out W (Ext.trans H2.out.1 (Ext.trans cc.h hW))) _))))
    exact wpQuiet_nil rfl
  · simp only [List.drop_succ_cons, List.drop_zero]
    have H3 := Lib.hid (And.intro (Ext.trans H2.out.1 hW) (And.intro (H2.out.2.1.ext hW) (H2.out.2.2.ext hW)))
    clear hW p0 p1 p2 p3
    go_wp2_with (first | (go_at_call 30; refine (T.out _ _ _ (Ext.trans H3.out.1 (ext1 _ _)) (Blk.new _ _ _)).mono ?_; rintro e w3 ⟨rfl, rfl⟩; obtain ⟨p0, p1, p2, p3⟩ := cells_mk (H3.out.2.1.ext (ext1 W (.cells #[.nilIface, .nilIface] 57))); obtain ⟨q0, q1, q2, q3⟩ := cells_mk (H3.out.2.2.ext (ext1 W (.cells #[.nilIface, .nilIface] 57))); have f0 := (H3.out.2.2.ext (ext1 W (.cells #[.nilIface, .nilIface] 57))).frozen 0; have f1 := (H3.out.2.2.ext (ext1 W (.cells #[.nilIface, .nilIface] 57))).frozen 1; have f2 := (H3.out.2.2.ext (ext1 W (.cells #[.nilIface, .nilIface] 57))).frozen 2; have f3 := (H3.out.2.2.ext (ext1 W (.cells #[.nilIface, .nilIface] 57))).frozen 3))
    obtain ⟨s0, s1, s2, s3, hE⟩ := res_set4 (v0 := .int .i64 M.kind) (v1 := .int .i64 M.len) (v2 := .int .i64 M.cls) (v3 := .int .i64 M.ep) (H3.out.2.2.ext (ext1 W (.cells #[.nilIface, .nilIface] 57))) (Ext.trans H3.out.1 (ext1 W (.cells #[.nilIface, .nilIface] 57)))
    generalize ((((W.alloc (.cells #[.nilIface, .nilIface] 57)).setCell ⟨w.heap.size, 0, none⟩ (.int .i64 M.kind)).setCell ⟨w.heap.size, 1, none⟩ (.int .i64 M.len)).setCell ⟨w.heap.size, 2, none⟩ (.int .i64 M.cls)).setCell ⟨w.heap.size, 3, none⟩ (.int .i64 M.ep) = W4 at *
    exact bodyPost_ret (v := .tuple #[mkV M, .int .i64 0]) (by simp [results, Tryd.results12, go_sem, s0, s1, s2, s3]) rfl ⟨rfl, hE⟩
set_option maxHeartbeats 1000000 in
theorem decode_tf (s : List UInt8) (hr : rightM (readM s) = true) (hq : decide (encS (readM s) = s) = false) (w : World) (hG : G a b w) :
    Calls Tryd.prog 12 #[.string ⟨s.toArray⟩] w fun e w' => e = .returned (.tuple #[mkV zM, .int .i64 60]) ∧ Ext w w' := by
  have R := Lib.hid (fun W (hW : Ext w W) => read_is s W (hG.ext hW).t)
  have NH := Lib.hid (fun W (hW : Ext w W) => noHead_ok (readM s) hr W (hG.ext hW))
  have NO := Lib.hid (fun W (hW : Ext w W) => (show Calls Tryd.prog 35 #[mkV (readM s), .string ⟨s.toArray⟩] W fun e w' => e = .returned (eH b) ∧ Ext W w' by have := notOf_is (readM s) (fit_read s) s W (hG.ext hW); rw [hq] at this; exact this))
  have T := Lib.hid (fun bb t W (hW : Ext w W) (hB : Blk W bb #[.nilIface, eH b] t) => tell2 (a := b) 0 2 (by decide) (by decide) 60 rfl bb t W (hG.ext hW).e hB)
  have E1 := ext1 w (.cells (mkC zM) 23)
  have b1 := Blk.new w (mkC zM) 23
  have HE := Lib.hid (And.intro E1 b1)
  clear hG hr hq E1 b1
  generalize readM s = M at *
  generalize (⟨s.toArray⟩ : ByteArray) = S at *
  go_enter Tryd.func12, Tryd.ntmps12
  go_wp2_with (first | (go_at_call 34; refine (R.out _ HE.out.1).mono ?_; rintro e w1 ⟨rfl, h1⟩; have K1 := Lib.hid h1; clear h1))
  refine wp_world ?_
  intro w2 hw2
  have k2 : Ext w1 w2 := by rw [hw2]; exact ext1 _ _
  have b2 : Blk w2 w1.heap.size (mkC M) 23 := by rw [hw2]; exact Blk.new _ _ _
  have hE2 := Ext.trans (Ext.trans HE.out.1 K1.out) k2
  have b0 := HE.out.2.ext (Ext.trans K1.out k2)
  obtain ⟨p0, p1, p2, p3⟩ := cells_mk b2
  have H2 := Lib.hid (And.intro hE2 (And.intro b2 b0))
  clear hw2 k2 b2 hE2 b0
  refine wp_region_tail 8 5 rfl (by kernel_rfl) (by kernel_rfl) (by kernel_rfl) ?_
  apply Exists.intro
  refine ⟨fun cc => ?_, fun W hW => ?_⟩
  · have hx := fun (o : From cc.w) p h => From.cell2 cc.h o p h
    simp only [List.take_succ_cons, List.take_zero]
    repeat (go_big_quiet_step ((first | (go_at_call 31; exact on_call (fun W hW => NH.out W (Ext.trans H2.out.1 (Ext.trans cc.h hW))) _) | (go_at_call 35; exact on_call (fun W hW => NO.out W (Ext.trans H2.out.1 (Ext.trans cc.h hW))) _))))
    exact wpQuiet_nil rfl
  · simp only [List.drop_succ_cons, List.drop_zero]
    have H3 := Lib.hid (And.intro (Ext.trans H2.out.1 hW) (And.intro (H2.out.2.1.ext hW) (H2.out.2.2.ext hW)))
    clear hW p0 p1 p2 p3
    go_wp2_with (first | (go_at_call 30; refine (T.out _ _ _ (Ext.trans H3.out.1 (ext1 _ _)) (Blk.new _ _ _)).mono ?_; rintro e w3 ⟨rfl, rfl⟩; obtain ⟨p0, p1, p2, p3⟩ := cells_mk (H3.out.2.1.ext (ext1 W (.cells #[.nilIface, eH b] 57))); obtain ⟨q0, q1, q2, q3⟩ := cells_mk (H3.out.2.2.ext (ext1 W (.cells #[.nilIface, eH b] 57))); have f0 := (H3.out.2.2.ext (ext1 W (.cells #[.nilIface, eH b] 57))).frozen 0; have f1 := (H3.out.2.2.ext (ext1 W (.cells #[.nilIface, eH b] 57))).frozen 1; have f2 := (H3.out.2.2.ext (ext1 W (.cells #[.nilIface, eH b] 57))).frozen 2; have f3 := (H3.out.2.2.ext (ext1 W (.cells #[.nilIface, eH b] 57))).frozen 3))
    obtain ⟨s0, s1, s2, s3, hE⟩ := res_set4 (v0 := .int .i64 0) (v1 := .int .i64 0) (v2 := .int .i64 0) (v3 := .int .i64 0) (H3.out.2.2.ext (ext1 W (.cells #[.nilIface, eH b] 57))) (Ext.trans H3.out.1 (ext1 W (.cells #[.nilIface, eH b] 57)))
    generalize ((((W.alloc (.cells #[.nilIface, eH b] 57)).setCell ⟨w.heap.size, 0, none⟩ (.int .i64 0)).setCell ⟨w.heap.size, 1, none⟩ (.int .i64 0)).setCell ⟨w.heap.size, 2, none⟩ (.int .i64 0)).setCell ⟨w.heap.size, 3, none⟩ (.int .i64 0) = W4 at *
    exact bodyPost_ret (v := .tuple #[mkV zM, .int .i64 60]) (by simp [results, Tryd.results12, go_sem, s0, s1, s2, s3, zM]) rfl ⟨rfl, hE⟩
set_option maxHeartbeats 1000000 in
theorem decode_ft (s : List UInt8) (hr : rightM (readM s) = false) (hq : decide (encS (readM s) = s) = true) (w : World) (hG : G a b w) :
    Calls Tryd.prog 12 #[.string ⟨s.toArray⟩] w fun e w' => e = .returned (.tuple #[mkV zM, .int .i64 60]) ∧ Ext w w' := by
  have R := Lib.hid (fun W (hW : Ext w W) => read_is s W (hG.ext hW).t)
  have NH := Lib.hid (fun W (hW : Ext w W) => noHead_no (readM s) hr W (hG.ext hW))
  have NO := Lib.hid (fun W (hW : Ext w W) => (show Calls Tryd.prog 35 #[mkV (readM s), .string ⟨s.toArray⟩] W fun e w' => e = .returned (.nilIface) ∧ Ext W w' by have := notOf_is (readM s) (fit_read s) s W (hG.ext hW); rw [hq] at this; exact this))
  have T := Lib.hid (fun bb t W (hW : Ext w W) (hB : Blk W bb #[eH b, .nilIface] t) => tell2 (a := b) 2 0 (by decide) (by decide) 60 rfl bb t W (hG.ext hW).e hB)
  have E1 := ext1 w (.cells (mkC zM) 23)
  have b1 := Blk.new w (mkC zM) 23
  have HE := Lib.hid (And.intro E1 b1)
  clear hG hr hq E1 b1
  generalize readM s = M at *
  generalize (⟨s.toArray⟩ : ByteArray) = S at *
  go_enter Tryd.func12, Tryd.ntmps12
  go_wp2_with (first | (go_at_call 34; refine (R.out _ HE.out.1).mono ?_; rintro e w1 ⟨rfl, h1⟩; have K1 := Lib.hid h1; clear h1))
  refine wp_world ?_
  intro w2 hw2
  have k2 : Ext w1 w2 := by rw [hw2]; exact ext1 _ _
  have b2 : Blk w2 w1.heap.size (mkC M) 23 := by rw [hw2]; exact Blk.new _ _ _
  have hE2 := Ext.trans (Ext.trans HE.out.1 K1.out) k2
  have b0 := HE.out.2.ext (Ext.trans K1.out k2)
  obtain ⟨p0, p1, p2, p3⟩ := cells_mk b2
  have H2 := Lib.hid (And.intro hE2 (And.intro b2 b0))
  clear hw2 k2 b2 hE2 b0
  refine wp_region_tail 8 5 rfl (by kernel_rfl) (by kernel_rfl) (by kernel_rfl) ?_
  apply Exists.intro
  refine ⟨fun cc => ?_, fun W hW => ?_⟩
  · have hx := fun (o : From cc.w) p h => From.cell2 cc.h o p h
    simp only [List.take_succ_cons, List.take_zero]
    repeat (go_big_quiet_step ((first | (go_at_call 31; exact on_call (fun W hW => NH.out W (Ext.trans H2.out.1 (Ext.trans cc.h hW))) _) | (go_at_call 35; exact on_call (fun W hW => NO.out W (Ext.trans H2.out.1 (Ext.trans cc.h hW))) _))))
    exact wpQuiet_nil rfl
  · simp only [List.drop_succ_cons, List.drop_zero]
    have H3 := Lib.hid (And.intro (Ext.trans H2.out.1 hW) (And.intro (H2.out.2.1.ext hW) (H2.out.2.2.ext hW)))
    clear hW p0 p1 p2 p3
    go_wp2_with (first | (go_at_call 30; refine (T.out _ _ _ (Ext.trans H3.out.1 (ext1 _ _)) (Blk.new _ _ _)).mono ?_; rintro e w3 ⟨rfl, rfl⟩; obtain ⟨p0, p1, p2, p3⟩ := cells_mk (H3.out.2.1.ext (ext1 W (.cells #[eH b, .nilIface] 57))); obtain ⟨q0, q1, q2, q3⟩ := cells_mk (H3.out.2.2.ext (ext1 W (.cells #[eH b, .nilIface] 57))); have f0 := (H3.out.2.2.ext (ext1 W (.cells #[eH b, .nilIface] 57))).frozen 0; have f1 := (H3.out.2.2.ext (ext1 W (.cells #[eH b, .nilIface] 57))).frozen 1; have f2 := (H3.out.2.2.ext (ext1 W (.cells #[eH b, .nilIface] 57))).frozen 2; have f3 := (H3.out.2.2.ext (ext1 W (.cells #[eH b, .nilIface] 57))).frozen 3))
    obtain ⟨s0, s1, s2, s3, hE⟩ := res_set4 (v0 := .int .i64 0) (v1 := .int .i64 0) (v2 := .int .i64 0) (v3 := .int .i64 0) (H3.out.2.2.ext (ext1 W (.cells #[eH b, .nilIface] 57))) (Ext.trans H3.out.1 (ext1 W (.cells #[eH b, .nilIface] 57)))
    generalize ((((W.alloc (.cells #[eH b, .nilIface] 57)).setCell ⟨w.heap.size, 0, none⟩ (.int .i64 0)).setCell ⟨w.heap.size, 1, none⟩ (.int .i64 0)).setCell ⟨w.heap.size, 2, none⟩ (.int .i64 0)).setCell ⟨w.heap.size, 3, none⟩ (.int .i64 0) = W4 at *
    exact bodyPost_ret (v := .tuple #[mkV zM, .int .i64 60]) (by simp [results, Tryd.results12, go_sem, s0, s1, s2, s3, zM]) rfl ⟨rfl, hE⟩
set_option maxHeartbeats 1000000 in
theorem decode_ff (s : List UInt8) (hr : rightM (readM s) = false) (hq : decide (encS (readM s) = s) = false) (w : World) (hG : G a b w) :
    Calls Tryd.prog 12 #[.string ⟨s.toArray⟩] w fun e w' => e = .returned (.tuple #[mkV zM, .int .i64 60]) ∧ Ext w w' := by
  have R := Lib.hid (fun W (hW : Ext w W) => read_is s W (hG.ext hW).t)
  have NH := Lib.hid (fun W (hW : Ext w W) => noHead_no (readM s) hr W (hG.ext hW))
  have NO := Lib.hid (fun W (hW : Ext w W) => (show Calls Tryd.prog 35 #[mkV (readM s), .string ⟨s.toArray⟩] W fun e w' => e = .returned (eH b) ∧ Ext W w' by have := notOf_is (readM s) (fit_read s) s W (hG.ext hW); rw [hq] at this; exact this))
  have T := Lib.hid (fun bb t W (hW : Ext w W) (hB : Blk W bb #[eH b, eH b] t) => tell2 (a := b) 2 2 (by decide) (by decide) 60 rfl bb t W (hG.ext hW).e hB)
  have E1 := ext1 w (.cells (mkC zM) 23)
  have b1 := Blk.new w (mkC zM) 23
  have HE := Lib.hid (And.intro E1 b1)
  clear hG hr hq E1 b1
  generalize readM s = M at *
  generalize (⟨s.toArray⟩ : ByteArray) = S at *
  go_enter Tryd.func12, Tryd.ntmps12
  go_wp2_with (first | (go_at_call 34; refine (R.out _ HE.out.1).mono ?_; rintro e w1 ⟨rfl, h1⟩; have K1 := Lib.hid h1; clear h1))
  refine wp_world ?_
  intro w2 hw2
  have k2 : Ext w1 w2 := by rw [hw2]; exact ext1 _ _
  have b2 : Blk w2 w1.heap.size (mkC M) 23 := by rw [hw2]; exact Blk.new _ _ _
  have hE2 := Ext.trans (Ext.trans HE.out.1 K1.out) k2
  have b0 := HE.out.2.ext (Ext.trans K1.out k2)
  obtain ⟨p0, p1, p2, p3⟩ := cells_mk b2
  have H2 := Lib.hid (And.intro hE2 (And.intro b2 b0))
  clear hw2 k2 b2 hE2 b0
  refine wp_region_tail 8 5 rfl (by kernel_rfl) (by kernel_rfl) (by kernel_rfl) ?_
  apply Exists.intro
  refine ⟨fun cc => ?_, fun W hW => ?_⟩
  · have hx := fun (o : From cc.w) p h => From.cell2 cc.h o p h
    simp only [List.take_succ_cons, List.take_zero]
    repeat (go_big_quiet_step ((first | (go_at_call 31; exact on_call (fun W hW => NH.out W (Ext.trans H2.out.1 (Ext.trans cc.h hW))) _) | (go_at_call 35; exact on_call (fun W hW => NO.out W (Ext.trans H2.out.1 (Ext.trans cc.h hW))) _))))
    exact wpQuiet_nil rfl
  · simp only [List.drop_succ_cons, List.drop_zero]
    have H3 := Lib.hid (And.intro (Ext.trans H2.out.1 hW) (And.intro (H2.out.2.1.ext hW) (H2.out.2.2.ext hW)))
    clear hW p0 p1 p2 p3
    go_wp2_with (first | (go_at_call 30; refine (T.out _ _ _ (Ext.trans H3.out.1 (ext1 _ _)) (Blk.new _ _ _)).mono ?_; rintro e w3 ⟨rfl, rfl⟩; obtain ⟨p0, p1, p2, p3⟩ := cells_mk (H3.out.2.1.ext (ext1 W (.cells #[eH b, eH b] 57))); obtain ⟨q0, q1, q2, q3⟩ := cells_mk (H3.out.2.2.ext (ext1 W (.cells #[eH b, eH b] 57))); have f0 := (H3.out.2.2.ext (ext1 W (.cells #[eH b, eH b] 57))).frozen 0; have f1 := (H3.out.2.2.ext (ext1 W (.cells #[eH b, eH b] 57))).frozen 1; have f2 := (H3.out.2.2.ext (ext1 W (.cells #[eH b, eH b] 57))).frozen 2; have f3 := (H3.out.2.2.ext (ext1 W (.cells #[eH b, eH b] 57))).frozen 3))
    obtain ⟨s0, s1, s2, s3, hE⟩ := res_set4 (v0 := .int .i64 0) (v1 := .int .i64 0) (v2 := .int .i64 0) (v3 := .int .i64 0) (H3.out.2.2.ext (ext1 W (.cells #[eH b, eH b] 57))) (Ext.trans H3.out.1 (ext1 W (.cells #[eH b, eH b] 57)))
    generalize ((((W.alloc (.cells #[eH b, eH b] 57)).setCell ⟨w.heap.size, 0, none⟩ (.int .i64 0)).setCell ⟨w.heap.size, 1, none⟩ (.int .i64 0)).setCell ⟨w.heap.size, 2, none⟩ (.int .i64 0)).setCell ⟨w.heap.size, 3, none⟩ (.int .i64 0) = W4 at *
    exact bodyPost_ret (v := .tuple #[mkV zM, .int .i64 60]) (by simp [results, Tryd.results12, go_sem, s0, s1, s2, s3, zM]) rfl ⟨rfl, hE⟩
theorem decode_is (s : List UInt8) (w : World) (hG : G a b w) :
    Calls Tryd.prog 12 #[.string ⟨s.toArray⟩] w fun e w' => e = .returned (.tuple #[mkV (decM s), .int .i64 (decE s)]) ∧ Ext w w' := by
  unfold decM decE okD
  rcases hr : rightM (readM s) with _ | _ <;> rcases hq : decide (encS (readM s) = s) with _ | _
  · exact decode_ff s hr hq w hG
  · exact decode_ft s hr hq w hG
  · exact decode_tf s hr hq w hG
  · exact decode_tt s hr hq w hG
end
end H
end Go.Proofs.YtfpefffgegphnaaDoor
