/- selionlaw06.HeadCodes. -/
import Derived.Test.YtfpefffgegphnaaDoorShownH
import Derived.Test.YtfpefffgegphnaaDoorRefD
namespace Go.Proofs.YtfpefffgegphnaaDoor
open Go.RowKit Go
namespace H
open HD
section
variable {a b : Nat → Addr}
set_option maxHeartbeats 2000000 in
set_option maxRecDepth 100000 in
theorem codes_walk (m : MkR) (s : List UInt8) (x : Int) (w : World) (hG : G a b w) : Calls Tryd.prog 3 #[mkV m, .string ⟨s.toArray⟩, .int .i64 x] w fun e w' => e = .returned (.bool true) ∧ Ext w w' := by
  have E1 := ext1 w (.cells (mkC m) 23)
  have b1 := Blk.new w (mkC m) 23
  have S := Lib.hid (shown_is _ (hG.ext E1))
  have C1 := Lib.hid (fun W (hW : Ext w W) => encode_is m W (hG.ext hW))
  have C2 := Lib.hid (fun W => rencode_is m W)
  have CU := Lib.hid (fun W => cut_is s W)
  have D1 := Lib.hid (fun W (hW : Ext w W) => decode_is (s.take 20) W (hG.ext hW))
  have D2 := Lib.hid (fun W => rdecode_is (s.take 20) W)
  have R1 := Lib.hid (fun W (hW : Ext w W) => right_is m W (hG.ext hW))
  have R2 := Lib.hid (fun W => rright_is m W)
  have T1 := Lib.hid (fun W => turn_is x W)
  have T2 := Lib.hid (fun W => rturn_is x W)
  have HE := Lib.hid (And.intro E1 b1)
  clear hG E1 b1
  generalize turnV x = y at *
  generalize rightM m = q at *
  generalize decM (s.take 20) = M at *
  generalize decE (s.take 20) = me at *
  generalize encE m = ne at *
  generalize (⟨(encV m).toArray⟩ : ByteArray) = X at *
  generalize (⟨(s.take 20).toArray⟩ : ByteArray) = Y at *
  generalize (⟨s.toArray⟩ : ByteArray) = Z at *
  go_enter Tryd.func3, Tryd.ntmps3
  go_wp2_with (first
    | (go_at_call 9; refine S.out.mono ?_; rintro e w1 ⟨rfl, h1⟩; obtain ⟨p0, p1, p2, p3⟩ := cells_mk (HE.out.2.ext h1); clear S)
    | (go_at_call 10; refine (C1.out _ (Ext.trans HE.out.1 h1)).mono ?_; rintro e w2 ⟨rfl, h2⟩; replace h2 := Ext.trans h1 h2; clear p0 p1 p2 p3 C1; obtain ⟨p0, p1, p2, p3⟩ := cells_mk (HE.out.2.ext h2))
    | (go_at_call 11; refine (C2.out _).mono ?_; rintro e w3 ⟨rfl, h3⟩; replace h3 := Ext.trans h2 h3; clear p0 p1 p2 p3 C2)
    | (go_at_call 13; refine (CU.out _).mono ?_; rintro e w4 ⟨rfl, rfl⟩)
    | (go_at_call 12; refine (D1.out _ (Ext.trans HE.out.1 h3)).mono ?_; rintro e w5 ⟨rfl, h5⟩; have B5 := Lib.hid (Blk.new w5 (mkC M) 23); replace h5 := Ext.trans (Ext.trans h3 h5) (ext1 w5 (.cells (mkC M) 23)); clear D1)
    | (go_at_call 14; refine (D2.out _).mono ?_; rintro e w6 ⟨rfl, h6⟩; have B6 := Lib.hid (And.intro (Blk.new w6 (mkC M) 23) ((B5.out.ext h6).ext (ext1 w6 (.cells (mkC M) 23)))); replace h6 := Ext.trans (Ext.trans h5 h6) (ext1 w6 (.cells (mkC M) 23)); clear D2))
  refine wp_world ?_
  intro W7 hW7
  have k7 : Ext w W7 := by rw [hW7]; exact Ext.trans HE.out.1 h6
  have hm := HE.out.2.ext h6
  rw [← hW7] at hm
  have hb5 := B6.out.2
  have hb6 := B6.out.1
  rw [← hW7] at hb5 hb6
  obtain ⟨p0, p1, p2, p3⟩ := cells_mk hm
  obtain ⟨q0, q1, q2, q3⟩ := cells_mk hb5
  obtain ⟨r0, r1, r2, r3⟩ := cells_mk hb6
  have HK := Lib.hid k7
  have hx := fun (o : From W7) p h => From.cell o p h
  clear hW7 k7 hm hb5 hb6 B5 B6
  refine wp_region_on (by kernel_rfl) (by kernel_rfl) ?_
  repeat (go_big_quiet_step ((first | (go_at_call 15; exact on_call (fun W hW => R1.out W (Ext.trans HK.out hW)) _) | (go_at_call 16; exact on_call (fun W _ => R2.out W) _) | (go_at_call 17; exact on_same (fun W => T1.out W) _) | (go_at_call 18; exact on_same (fun W => T2.out W) _))))
  refine wpQuiet_nil ?_
  intro W hW
  go_wp2
  go_ret
  first | exact ⟨rfl, Ext.trans HK.out hW⟩ | exact ⟨ret_bool (by simp), Ext.trans HK.out hW⟩
end
end H
end Go.Proofs.YtfpefffgegphnaaDoor
