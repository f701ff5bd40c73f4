/- selionlaw06.HeadApart. -/
import Derived.Test.YtfpefffgegphnaaDoorShownH
namespace Go.Proofs.YtfpefffgegphnaaDoor
open Go.RowKit Go
namespace H
open HD
section
variable {a b : Nat → Addr}
theorem empty_txt : (⟨([] : List UInt8).toArray⟩ : ByteArray) = ⟨#[]⟩ := rfl
theorem enc_same {m m' : MkR} (hr : rightM m = true) (hr' : rightM m' = true) : decide (encS m = encS m') = decide (m = m') := by
  rw [Bool.eq_iff_iff]
  simp only [decide_eq_true_eq]
  exact ⟨enc_inj hr hr', fun h => by rw [h]⟩
theorem enc_of_no {m : MkR} (h : rightM m = false) : encV m = [] ∧ encE m = 60 := by unfold encV encE; rw [h]; exact ⟨rfl, rfl⟩
theorem enc_of_ok {m : MkR} (h : rightM m = true) : encV m = encS m ∧ encE m = 0 := by unfold encV encE; rw [h]; exact ⟨rfl, rfl⟩
theorem size_enc {m : MkR} {X : ByteArray} (h : (⟨(encS m).toArray⟩ : ByteArray) = X) : X.size = 8 := by rw [← h]; rfl
set_option maxHeartbeats 1000000 in
theorem apart_ff (m m' : MkR) (h1 : rightM m = false) (h2 : rightM m' = false) (w : World) (hG : G a b w) : Calls Tryd.prog 8 #[mkV m, mkV m'] w fun e w' => e = .returned (.bool true) ∧ Ext w w' := by
  have E2 := ext2 w (.cells (mkC m) 23) (.cells (mkC m') 23)
  have b1 := (Blk.new w (mkC m) 23).alloc (.cells (mkC m') 23)
  have b2 := Blk.new (w.alloc (.cells (mkC m) 23)) (mkC m') 23
  rw [World.size_alloc] at b2
  have S := Lib.hid (shown_is _ (hG.ext E2))
  have C1 := Lib.hid (fun W (hW : Ext w W) => encode_is m W (hG.ext hW))
  rw [(enc_of_no h1).1, (enc_of_no h1).2] at C1
  have C2 := Lib.hid (fun W (hW : Ext w W) => encode_is m' W (hG.ext hW))
  rw [(enc_of_no h2).1, (enc_of_no h2).2] at C2
  have HE := Lib.hid (And.intro E2 (And.intro b1 b2))
  clear hG h1 h2 E2 b1 b2
  go_enter Tryd.func8, Tryd.ntmps8
  go_wp2_with (first | (go_at_call 9; refine S.out.mono ?_; rintro e w1 ⟨rfl, h1⟩; obtain ⟨p0, p1, p2, p3⟩ := cells_mk (HE.out.2.1.ext h1); clear S) | (go_at_call 10; refine (C1.out _ (Ext.trans HE.out.1 h1)).mono ?_; rintro e w2 ⟨rfl, h2⟩; replace h2 := Ext.trans h1 h2; obtain ⟨r0, r1, r2, r3⟩ := cells_mk (HE.out.2.2.ext h2); clear p0 p1 p2 p3 C1) | (go_at_call 10; refine (C2.out _ (Ext.trans HE.out.1 h2)).mono ?_; rintro e w3 ⟨rfl, h3⟩; replace h3 := Ext.trans h2 h3; clear r0 r1 r2 r3 C2; obtain ⟨p0, p1, p2, p3⟩ := cells_mk (HE.out.2.1.ext h3); obtain ⟨r0, r1, r2, r3⟩ := cells_mk (HE.out.2.2.ext h3)))
  go_ret
  exact ⟨rfl, Ext.trans HE.out.1 h3⟩
set_option maxHeartbeats 1000000 in
theorem apart_ft (m m' : MkR) (h1 : rightM m = false) (h2 : rightM m' = true) (w : World) (hG : G a b w) : Calls Tryd.prog 8 #[mkV m, mkV m'] w fun e w' => e = .returned (.bool true) ∧ Ext w w' := by
  have E2 := ext2 w (.cells (mkC m) 23) (.cells (mkC m') 23)
  have b1 := (Blk.new w (mkC m) 23).alloc (.cells (mkC m') 23)
  have b2 := Blk.new (w.alloc (.cells (mkC m) 23)) (mkC m') 23
  rw [World.size_alloc] at b2
  have S := Lib.hid (shown_is _ (hG.ext E2))
  have C1 := Lib.hid (fun W (hW : Ext w W) => encode_is m W (hG.ext hW))
  rw [(enc_of_no h1).1, (enc_of_no h1).2] at C1
  have C2 := Lib.hid (fun W (hW : Ext w W) => encode_is m' W (hG.ext hW))
  rw [(enc_of_ok h2).1, (enc_of_ok h2).2] at C2
  have HE := Lib.hid (And.intro E2 (And.intro b1 b2))
  clear hG h1 h2 E2 b1 b2
  go_enter Tryd.func8, Tryd.ntmps8
  go_wp2_with (first | (go_at_call 9; refine S.out.mono ?_; rintro e w1 ⟨rfl, h1⟩; obtain ⟨p0, p1, p2, p3⟩ := cells_mk (HE.out.2.1.ext h1); clear S) | (go_at_call 10; refine (C1.out _ (Ext.trans HE.out.1 h1)).mono ?_; rintro e w2 ⟨rfl, h2⟩; replace h2 := Ext.trans h1 h2; obtain ⟨r0, r1, r2, r3⟩ := cells_mk (HE.out.2.2.ext h2); clear p0 p1 p2 p3 C1) | (go_at_call 10; refine (C2.out _ (Ext.trans HE.out.1 h2)).mono ?_; rintro e w3 ⟨rfl, h3⟩; replace h3 := Ext.trans h2 h3; clear r0 r1 r2 r3 C2; obtain ⟨p0, p1, p2, p3⟩ := cells_mk (HE.out.2.1.ext h3); obtain ⟨r0, r1, r2, r3⟩ := cells_mk (HE.out.2.2.ext h3)))
  go_ret
  exact ⟨rfl, Ext.trans HE.out.1 h3⟩
set_option maxHeartbeats 1000000 in
theorem apart_tf (m m' : MkR) (h1 : rightM m = true) (h2 : rightM m' = false) (w : World) (hG : G a b w) : Calls Tryd.prog 8 #[mkV m, mkV m'] w fun e w' => e = .returned (.bool true) ∧ Ext w w' := by
  have E2 := ext2 w (.cells (mkC m) 23) (.cells (mkC m') 23)
  have b1 := (Blk.new w (mkC m) 23).alloc (.cells (mkC m') 23)
  have b2 := Blk.new (w.alloc (.cells (mkC m) 23)) (mkC m') 23
  rw [World.size_alloc] at b2
  have S := Lib.hid (shown_is _ (hG.ext E2))
  have C1 := Lib.hid (fun W (hW : Ext w W) => encode_is m W (hG.ext hW))
  rw [(enc_of_ok h1).1, (enc_of_ok h1).2] at C1
  have C2 := Lib.hid (fun W (hW : Ext w W) => encode_is m' W (hG.ext hW))
  rw [(enc_of_no h2).1, (enc_of_no h2).2] at C2
  have HE := Lib.hid (And.intro E2 (And.intro b1 b2))
  clear hG h1 h2 E2 b1 b2
  go_enter Tryd.func8, Tryd.ntmps8
  go_wp2_with (first | (go_at_call 9; refine S.out.mono ?_; rintro e w1 ⟨rfl, h1⟩; obtain ⟨p0, p1, p2, p3⟩ := cells_mk (HE.out.2.1.ext h1); clear S) | (go_at_call 10; refine (C1.out _ (Ext.trans HE.out.1 h1)).mono ?_; rintro e w2 ⟨rfl, h2⟩; replace h2 := Ext.trans h1 h2; obtain ⟨r0, r1, r2, r3⟩ := cells_mk (HE.out.2.2.ext h2); clear p0 p1 p2 p3 C1) | (go_at_call 10; refine (C2.out _ (Ext.trans HE.out.1 h2)).mono ?_; rintro e w3 ⟨rfl, h3⟩; replace h3 := Ext.trans h2 h3; clear r0 r1 r2 r3 C2; obtain ⟨p0, p1, p2, p3⟩ := cells_mk (HE.out.2.1.ext h3); obtain ⟨r0, r1, r2, r3⟩ := cells_mk (HE.out.2.2.ext h3)))
  go_ret
  exact ⟨rfl, Ext.trans HE.out.1 h3⟩
set_option maxHeartbeats 1000000 in
theorem apart_tt (m m' : MkR) (h1 : rightM m = true) (h2 : rightM m' = true) (w : World) (hG : G a b w) : Calls Tryd.prog 8 #[mkV m, mkV m'] w fun e w' => e = .returned (.bool true) ∧ Ext w w' := by
  have E2 := ext2 w (.cells (mkC m) 23) (.cells (mkC m') 23)
  have b1 := (Blk.new w (mkC m) 23).alloc (.cells (mkC m') 23)
  have b2 := Blk.new (w.alloc (.cells (mkC m) 23)) (mkC m') 23
  rw [World.size_alloc] at b2
  have S := Lib.hid (shown_is _ (hG.ext E2))
  have C1 := Lib.hid (fun W (hW : Ext w W) => encode_is m W (hG.ext hW))
  rw [(enc_of_ok h1).1, (enc_of_ok h1).2] at C1
  have C2 := Lib.hid (fun W (hW : Ext w W) => encode_is m' W (hG.ext hW))
  rw [(enc_of_ok h2).1, (enc_of_ok h2).2] at C2
  obtain ⟨X, hX⟩ : ∃ X : ByteArray, ⟨(encS m).toArray⟩ = X := ⟨_, rfl⟩
  obtain ⟨Y, hY⟩ : ∃ Y : ByteArray, ⟨(encS m').toArray⟩ = Y := ⟨_, rfl⟩
  obtain ⟨q, hq⟩ : ∃ q, decide (m = m') = q := ⟨_, rfl⟩
  have sx := size_enc hX
  have sy := size_enc hY
  have eqs := eql_txt hX hY ((enc_same h1 h2).trans hq)
  have eqm := fun W => eql_mark m m' W
  rw [hq] at eqm
  rw [hX] at C1
  rw [hY] at C2
  clear hX hY hq
  have HE := Lib.hid (And.intro E2 (And.intro b1 b2))
  clear hG h1 h2 E2 b1 b2
  go_enter Tryd.func8, Tryd.ntmps8
  go_wp2_with (first | (go_at_call 9; refine S.out.mono ?_; rintro e w1 ⟨rfl, h1⟩; obtain ⟨p0, p1, p2, p3⟩ := cells_mk (HE.out.2.1.ext h1); clear S) | (go_at_call 10; refine (C1.out _ (Ext.trans HE.out.1 h1)).mono ?_; rintro e w2 ⟨rfl, h2⟩; replace h2 := Ext.trans h1 h2; obtain ⟨r0, r1, r2, r3⟩ := cells_mk (HE.out.2.2.ext h2); clear p0 p1 p2 p3 C1) | (go_at_call 10; refine (C2.out _ (Ext.trans HE.out.1 h2)).mono ?_; rintro e w3 ⟨rfl, h3⟩; replace h3 := Ext.trans h2 h3; clear r0 r1 r2 r3 C2; obtain ⟨p0, p1, p2, p3⟩ := cells_mk (HE.out.2.1.ext h3); obtain ⟨r0, r1, r2, r3⟩ := cells_mk (HE.out.2.2.ext h3)))
  go_ret
  exact ⟨rfl, Ext.trans HE.out.1 h3⟩
theorem apart_walk (m m' : MkR) (w : World) (hG : G a b w) : Calls Tryd.prog 8 #[mkV m, mkV m'] w fun e w' => e = .returned (.bool true) ∧ Ext w w' := by
  rcases h1 : rightM m with _ | _ <;> rcases h2 : rightM m' with _ | _
  · exact apart_ff m m' h1 h2 w hG
  · exact apart_ft m m' h1 h2 w hG
  · exact apart_tf m m' h1 h2 w hG
  · exact apart_tt m m' h1 h2 w hG
end
end H
end Go.Proofs.YtfpefffgegphnaaDoor
