/- head: Get (made by gen_put.py). -/
import Derived.Test.YtfpefffgegphnaaDoorPutH
namespace Go.Proofs.YtfpefffgegphnaaDoor
open Go.RowKit Go
namespace H
open HD
section
variable {a b : Nat → Addr}
set_option maxHeartbeats 1000000 in
theorem get_10 (v : Value) (x : Int) (w : World) (hG : G a b w)
    (NA : ∀ W, Ext w W → Calls Tryd.prog 38 #[v] W fun e w' => e = .returned (eN b) ∧ Ext W w')
    (NG : ∀ W, Ext w W → Calls Tryd.prog 39 #[.int .i64 x] W fun e w' => e = .returned (.nilIface) ∧ Ext W w') :
    Calls Tryd.prog 21 #[v, .int .i64 x] w fun e w' => e = .returned (.tuple #[mkV zM, .int .i64 1]) ∧ Ext w w' := by
  have T := Lib.hid (fun bb t W (hW : Ext w W) (hB : Blk W bb #[eN b, .nilIface] t) => tell2 (a := b) 1 0 (by decide) (by decide) 1 rfl bb t W (hG.ext hW).e hB)
  have E1 := ext1 w (.cells (mkC zM) 23)
  have b1 := Blk.new w (mkC zM) 23
  have NA := Lib.hid NA
  have NG := Lib.hid NG
  have HE := Lib.hid (And.intro E1 b1)
  clear hG E1 b1
  go_enter Tryd.func21, Tryd.ntmps21
  go_wp2_with (first | (go_at_call 38; refine (NA.out _ HE.out.1).mono ?_; rintro e w1 ⟨rfl, h1⟩) | (go_at_call 39; refine (NG.out _ (Ext.trans HE.out.1 h1)).mono ?_; rintro e w2 ⟨rfl, h2⟩; have hX := Ext.trans h1 h2; clear h2) | (go_at_call 30; refine (T.out _ _ _ (Ext.trans HE.out.1 (Ext.trans hX (ext1 w2 (.cells #[eN b, .nilIface] 57)))) (Blk.new _ _ _)).mono ?_; rintro e w3 ⟨rfl, rfl⟩; have hY := Ext.trans hX (ext1 w2 (.cells #[eN b, .nilIface] 57)); have BB := Lib.hid (And.intro (HE.out.2.ext hY) (Ext.trans HE.out.1 hY)); obtain ⟨q0, q1, q2, q3⟩ := cells_mk BB.out.1; have f0 := BB.out.1.frozen 0; have f1 := BB.out.1.frozen 1; have f2 := BB.out.1.frozen 2; have f3 := BB.out.1.frozen 3))
  obtain ⟨s0, s1, s2, s3, hE⟩ := res_set4 (v0 := .int .i64 0) (v1 := .int .i64 0) (v2 := .int .i64 0) (v3 := .int .i64 0) BB.out.1 BB.out.2
  generalize ((((w2.alloc (.cells #[eN b, .nilIface] 57)).setCell ⟨w.heap.size, 0, none⟩ (.int .i64 0)).setCell ⟨w.heap.size, 1, none⟩ (.int .i64 0)).setCell ⟨w.heap.size, 2, none⟩ (.int .i64 0)).setCell ⟨w.heap.size, 3, none⟩ (.int .i64 0) = W4 at *
  exact bodyPost_ret (v := .tuple #[mkV zM, .int .i64 1]) (by simp [results, Tryd.results21, go_sem, s0, s1, s2, s3, zM]) rfl ⟨rfl, hE⟩
set_option maxHeartbeats 1000000 in
theorem get_13 (v : Value) (x : Int) (w : World) (hG : G a b w)
    (NA : ∀ W, Ext w W → Calls Tryd.prog 38 #[v] W fun e w' => e = .returned (eN b) ∧ Ext W w')
    (NG : ∀ W, Ext w W → Calls Tryd.prog 39 #[.int .i64 x] W fun e w' => e = .returned (eA b) ∧ Ext W w') :
    Calls Tryd.prog 21 #[v, .int .i64 x] w fun e w' => e = .returned (.tuple #[mkV zM, .int .i64 1]) ∧ Ext w w' := by
  have T := Lib.hid (fun bb t W (hW : Ext w W) (hB : Blk W bb #[eN b, eA b] t) => tell2 (a := b) 1 3 (by decide) (by decide) 1 rfl bb t W (hG.ext hW).e hB)
  have E1 := ext1 w (.cells (mkC zM) 23)
  have b1 := Blk.new w (mkC zM) 23
  have NA := Lib.hid NA
  have NG := Lib.hid NG
  have HE := Lib.hid (And.intro E1 b1)
  clear hG E1 b1
  go_enter Tryd.func21, Tryd.ntmps21
  go_wp2_with (first | (go_at_call 38; refine (NA.out _ HE.out.1).mono ?_; rintro e w1 ⟨rfl, h1⟩) | (go_at_call 39; refine (NG.out _ (Ext.trans HE.out.1 h1)).mono ?_; rintro e w2 ⟨rfl, h2⟩; have hX := Ext.trans h1 h2; clear h2) | (go_at_call 30; refine (T.out _ _ _ (Ext.trans HE.out.1 (Ext.trans hX (ext1 w2 (.cells #[eN b, eA b] 57)))) (Blk.new _ _ _)).mono ?_; rintro e w3 ⟨rfl, rfl⟩; have hY := Ext.trans hX (ext1 w2 (.cells #[eN b, eA b] 57)); have BB := Lib.hid (And.intro (HE.out.2.ext hY) (Ext.trans HE.out.1 hY)); obtain ⟨q0, q1, q2, q3⟩ := cells_mk BB.out.1; have f0 := BB.out.1.frozen 0; have f1 := BB.out.1.frozen 1; have f2 := BB.out.1.frozen 2; have f3 := BB.out.1.frozen 3))
  obtain ⟨s0, s1, s2, s3, hE⟩ := res_set4 (v0 := .int .i64 0) (v1 := .int .i64 0) (v2 := .int .i64 0) (v3 := .int .i64 0) BB.out.1 BB.out.2
  generalize ((((w2.alloc (.cells #[eN b, eA b] 57)).setCell ⟨w.heap.size, 0, none⟩ (.int .i64 0)).setCell ⟨w.heap.size, 1, none⟩ (.int .i64 0)).setCell ⟨w.heap.size, 2, none⟩ (.int .i64 0)).setCell ⟨w.heap.size, 3, none⟩ (.int .i64 0) = W4 at *
  exact bodyPost_ret (v := .tuple #[mkV zM, .int .i64 1]) (by simp [results, Tryd.results21, go_sem, s0, s1, s2, s3, zM]) rfl ⟨rfl, hE⟩
set_option maxHeartbeats 1000000 in
theorem get_03 (v : Value) (x : Int) (w : World) (hG : G a b w)
    (NA : ∀ W, Ext w W → Calls Tryd.prog 38 #[v] W fun e w' => e = .returned (.nilIface) ∧ Ext W w')
    (NG : ∀ W, Ext w W → Calls Tryd.prog 39 #[.int .i64 x] W fun e w' => e = .returned (eA b) ∧ Ext W w') :
    Calls Tryd.prog 21 #[v, .int .i64 x] w fun e w' => e = .returned (.tuple #[mkV zM, .int .i64 10]) ∧ Ext w w' := by
  have T := Lib.hid (fun bb t W (hW : Ext w W) (hB : Blk W bb #[.nilIface, eA b] t) => tell2 (a := b) 0 3 (by decide) (by decide) 10 rfl bb t W (hG.ext hW).e hB)
  have E1 := ext1 w (.cells (mkC zM) 23)
  have b1 := Blk.new w (mkC zM) 23
  have NA := Lib.hid NA
  have NG := Lib.hid NG
  have HE := Lib.hid (And.intro E1 b1)
  clear hG E1 b1
  go_enter Tryd.func21, Tryd.ntmps21
  go_wp2_with (first | (go_at_call 38; refine (NA.out _ HE.out.1).mono ?_; rintro e w1 ⟨rfl, h1⟩) | (go_at_call 39; refine (NG.out _ (Ext.trans HE.out.1 h1)).mono ?_; rintro e w2 ⟨rfl, h2⟩; have hX := Ext.trans h1 h2; clear h2) | (go_at_call 30; refine (T.out _ _ _ (Ext.trans HE.out.1 (Ext.trans hX (ext1 w2 (.cells #[.nilIface, eA b] 57)))) (Blk.new _ _ _)).mono ?_; rintro e w3 ⟨rfl, rfl⟩; have hY := Ext.trans hX (ext1 w2 (.cells #[.nilIface, eA b] 57)); have BB := Lib.hid (And.intro (HE.out.2.ext hY) (Ext.trans HE.out.1 hY)); obtain ⟨q0, q1, q2, q3⟩ := cells_mk BB.out.1; have f0 := BB.out.1.frozen 0; have f1 := BB.out.1.frozen 1; have f2 := BB.out.1.frozen 2; have f3 := BB.out.1.frozen 3))
  obtain ⟨s0, s1, s2, s3, hE⟩ := res_set4 (v0 := .int .i64 0) (v1 := .int .i64 0) (v2 := .int .i64 0) (v3 := .int .i64 0) BB.out.1 BB.out.2
  generalize ((((w2.alloc (.cells #[.nilIface, eA b] 57)).setCell ⟨w.heap.size, 0, none⟩ (.int .i64 0)).setCell ⟨w.heap.size, 1, none⟩ (.int .i64 0)).setCell ⟨w.heap.size, 2, none⟩ (.int .i64 0)).setCell ⟨w.heap.size, 3, none⟩ (.int .i64 0) = W4 at *
  exact bodyPost_ret (v := .tuple #[mkV zM, .int .i64 10]) (by simp [results, Tryd.results21, go_sem, s0, s1, s2, s3, zM]) rfl ⟨rfl, hE⟩
set_option maxHeartbeats 1000000 in
theorem get_00n (p g : Nat) (L : List UInt8) (x : Int) (w : World) (hG : G a b w) (hA : Ar w p g L) (hok : ¬ okA L x 8)
    (NA : ∀ W, Ext w W → Calls Tryd.prog 38 #[(ptr p)] W fun e w' => e = .returned (.nilIface) ∧ Ext W w')
    (NG : ∀ W, Ext w W → Calls Tryd.prog 39 #[.int .i64 x] W fun e w' => e = .returned (.nilIface) ∧ Ext W w') :
    Calls Tryd.prog 21 #[(ptr p), .int .i64 x] w fun e w' => e = .returned (.tuple #[mkV zM, .int .i64 10]) ∧ Ext w w' := by
  have T := Lib.hid (fun bb t W (hW : Ext w W) (hB : Blk W bb #[.nilIface, .nilIface] t) => tell2 (a := b) 0 0 (by decide) (by decide) 0 rfl bb t W (hG.ext hW).e hB)
  have E1 := ext1 w (.cells (mkC zM) 23)
  have b1 := Blk.new w (mkC zM) 23
  have NA := Lib.hid NA
  have NG := Lib.hid NG
  have RD := Lib.hid (fun W (hW : Ext w W) => read_no p g L x 8 hok W (hG.ext hW).g (hA.ext hW))
  have HE := Lib.hid (And.intro E1 b1)
  clear hG E1 b1 hA hok
  go_enter Tryd.func21, Tryd.ntmps21
  go_wp2_with (first | (go_at_call 38; refine (NA.out _ HE.out.1).mono ?_; rintro e w1 ⟨rfl, h1⟩) | (go_at_call 39; refine (NG.out _ (Ext.trans HE.out.1 h1)).mono ?_; rintro e w2 ⟨rfl, h2⟩; have hX := Ext.trans h1 h2; clear h2) | (go_at_call 30; refine (T.out _ _ _ (Ext.trans HE.out.1 (Ext.trans hX (ext1 w2 (.cells #[.nilIface, .nilIface] 57)))) (Blk.new _ _ _)).mono ?_; rintro e w3 ⟨rfl, rfl⟩; have hY := Ext.trans hX (ext1 w2 (.cells #[.nilIface, .nilIface] 57))) | (go_at_call 27; refine (RD.out _ (Ext.trans HE.out.1 hY)).mono ?_; rintro e w4 ⟨rfl, h4⟩; replace hY := Ext.trans hY h4; clear h4; have BB := Lib.hid (And.intro (HE.out.2.ext hY) (Ext.trans HE.out.1 hY)); obtain ⟨q0, q1, q2, q3⟩ := cells_mk BB.out.1; have f0 := BB.out.1.frozen 0; have f1 := BB.out.1.frozen 1; have f2 := BB.out.1.frozen 2; have f3 := BB.out.1.frozen 3))
  obtain ⟨s0, s1, s2, s3, hE⟩ := res_set4 (v0 := .int .i64 0) (v1 := .int .i64 0) (v2 := .int .i64 0) (v3 := .int .i64 0) BB.out.1 BB.out.2
  generalize ((((w4).setCell ⟨w.heap.size, 0, none⟩ (.int .i64 0)).setCell ⟨w.heap.size, 1, none⟩ (.int .i64 0)).setCell ⟨w.heap.size, 2, none⟩ (.int .i64 0)).setCell ⟨w.heap.size, 3, none⟩ (.int .i64 0) = W4 at *
  exact bodyPost_ret (v := .tuple #[mkV zM, .int .i64 10]) (by simp [results, Tryd.results21, go_sem, s0, s1, s2, s3, zM]) rfl ⟨rfl, hE⟩
set_option maxHeartbeats 1000000 in
theorem get_00k (p g : Nat) (L : List UInt8) (x : Int) (w : World) (hG : G a b w) (hA : Ar w p g L) (hok : okA L x 8)
    (NA : ∀ W, Ext w W → Calls Tryd.prog 38 #[(ptr p)] W fun e w' => e = .returned (.nilIface) ∧ Ext W w')
    (NG : ∀ W, Ext w W → Calls Tryd.prog 39 #[.int .i64 x] W fun e w' => e = .returned (.nilIface) ∧ Ext W w') :
    Calls Tryd.prog 21 #[(ptr p), .int .i64 x] w fun e w' => e = .returned (.tuple #[mkV (decM (cut L x.toNat 8)), .int .i64 (decE (cut L x.toNat 8))]) ∧ Ext w w' := by
  have T := Lib.hid (fun bb t W (hW : Ext w W) (hB : Blk W bb #[.nilIface, .nilIface] t) => tell2 (a := b) 0 0 (by decide) (by decide) 0 rfl bb t W (hG.ext hW).e hB)
  have E1 := ext1 w (.cells (mkC zM) 23)
  have b1 := Blk.new w (mkC zM) 23
  have NA := Lib.hid NA
  have NG := Lib.hid NG
  have RD := Lib.hid (fun W (hW : Ext w W) => read_ok p g L x 8 hok W (hG.ext hW).g (hA.ext hW))
  have DC := Lib.hid (fun W (hW : Ext w W) => decode_is (cut L x.toNat 8) W (hG.ext hW))
  have HE := Lib.hid (And.intro E1 b1)
  clear hG E1 b1 hA hok
  rw [show ((8 : Int).toNat) = 8 from rfl] at RD
  generalize decM (cut L x.toNat 8) = M at *
  generalize decE (cut L x.toNat 8) = E at *
  generalize cut L x.toNat 8 = X at *
  go_enter Tryd.func21, Tryd.ntmps21
  go_wp2_with (first | (go_at_call 38; refine (NA.out _ HE.out.1).mono ?_; rintro e w1 ⟨rfl, h1⟩) | (go_at_call 39; refine (NG.out _ (Ext.trans HE.out.1 h1)).mono ?_; rintro e w2 ⟨rfl, h2⟩; have hX := Ext.trans h1 h2; clear h2) | (go_at_call 30; refine (T.out _ _ _ (Ext.trans HE.out.1 (Ext.trans hX (ext1 w2 (.cells #[.nilIface, .nilIface] 57)))) (Blk.new _ _ _)).mono ?_; rintro e w3 ⟨rfl, rfl⟩; have hY := Ext.trans hX (ext1 w2 (.cells #[.nilIface, .nilIface] 57))) | (go_at_call 27; refine (RD.out _ (Ext.trans HE.out.1 hY)).mono ?_; rintro e w4 ⟨rfl, h4⟩; replace hY := Ext.trans hY h4; clear h4) | (go_at_call 12; refine (DC.out _ (Ext.trans HE.out.1 hY)).mono ?_; rintro e w5 ⟨rfl, h5⟩; replace hY := Ext.trans hY h5; clear h5; have BB := Lib.hid (And.intro (HE.out.2.ext hY) (Ext.trans HE.out.1 hY)); obtain ⟨q0, q1, q2, q3⟩ := cells_mk BB.out.1; have f0 := BB.out.1.frozen 0; have f1 := BB.out.1.frozen 1; have f2 := BB.out.1.frozen 2; have f3 := BB.out.1.frozen 3))
  obtain ⟨s0, s1, s2, s3, hE⟩ := res_set4 (v0 := .int .i64 M.kind) (v1 := .int .i64 M.len) (v2 := .int .i64 M.cls) (v3 := .int .i64 M.ep) BB.out.1 BB.out.2
  generalize ((((w5).setCell ⟨w.heap.size, 0, none⟩ (.int .i64 M.kind)).setCell ⟨w.heap.size, 1, none⟩ (.int .i64 M.len)).setCell ⟨w.heap.size, 2, none⟩ (.int .i64 M.cls)).setCell ⟨w.heap.size, 3, none⟩ (.int .i64 M.ep) = W4 at *
  exact bodyPost_ret (v := .tuple #[mkV M, .int .i64 E]) (by simp [results, Tryd.results21, go_sem, s0, s1, s2, s3]) rfl ⟨rfl, hE⟩
theorem get_nil (x : Int) (w : World) (hG : G a b w) : Calls Tryd.prog 21 #[.pointer none, .int .i64 x] w fun e w' => e = .returned (.tuple #[mkV zM, .int .i64 1]) ∧ Ext w w' := by
  by_cases hx : x % 8 = 0
  · exact get_10 _ x w hG (fun W hW => noArena_nil' W (hG.ext hW)) (fun W hW => noGranule_ok x hx W (hG.ext hW))
  · exact get_13 _ x w hG (fun W hW => noArena_nil' W (hG.ext hW)) (fun W hW => noGranule_no x hx W (hG.ext hW))
def getM (L : List UInt8) (x : Int) : MkR := if x % 8 = 0 ∧ okA L x 8 then decM (cut L x.toNat 8) else zM
def getE (L : List UInt8) (x : Int) : Int := if x % 8 = 0 ∧ okA L x 8 then decE (cut L x.toNat 8) else 10
theorem get_is (p g : Nat) (L : List UInt8) (x : Int) (w : World) (hG : G a b w) (hA : Ar w p g L) : Calls Tryd.prog 21 #[ptr p, .int .i64 x] w fun e w' => e = .returned (.tuple #[mkV (getM L x), .int .i64 (getE L x)]) ∧ Ext w w' := by
  unfold getM getE
  by_cases hx : x % 8 = 0
  · by_cases hok : okA L x 8
    · rw [if_pos ⟨hx, hok⟩, if_pos ⟨hx, hok⟩]
      exact get_00k p g L x w hG hA hok (fun W hW => noArena_ok' p g L W (hG.ext hW) (hA.ext hW)) (fun W hW => noGranule_ok x hx W (hG.ext hW))
    · rw [if_neg (fun h => hok h.2), if_neg (fun h => hok h.2)]
      exact get_00n p g L x w hG hA hok (fun W hW => noArena_ok' p g L W (hG.ext hW) (hA.ext hW)) (fun W hW => noGranule_ok x hx W (hG.ext hW))
  · rw [if_neg (fun h => hx h.1), if_neg (fun h => hx h.1)]
    exact get_03 _ x w hG (fun W hW => noArena_ok' p g L W (hG.ext hW) (hA.ext hW)) (fun W hW => noGranule_no x hx W (hG.ext hW))
end
end H
end Go.Proofs.YtfpefffgegphnaaDoor
