/- The reference's heads: Encode. -/
import Derived.Test.YtfpefffgegphnaaDoorRefR
import Derived.Test.YtfpefffgegphnaaDoorToldH
import Derived.Test.YtfpefffgegphnaaDoorEncH
namespace Go.Proofs.YtfpefffgegphnaaDoor
open Go.RowKit Go
namespace H
open HD
theorem cells7 (m : MkR) (hr : RightM m) : #[Value.int .u8 181, .int .u8 m.kind, .int .u8 m.cls, .int .u8 m.ep, .int .u8 (m.len % 256), .int .u8 (m.len / 256 % 256), .int .u8 (m.len / 65536)] = bts (bytes7 m) := by
  obtain ⟨r1, r2, r3, r4, r5, r6, r7, r8⟩ := hr
  have e : ∀ x y : Int, x % 256 = y → bv (u8 x) = .int .u8 y := fun x y h => by rw [bv, u8_nat, h]
  show _ = #[bv 181, bv (u8 m.kind), bv (u8 m.cls), bv (u8 m.ep), bv (u8 m.len), bv (u8 (m.len / 256)), bv (u8 (m.len / 65536))]
  rw [e m.kind m.kind (by omega), e m.cls m.cls (by omega), e m.ep m.ep (by omega), e m.len _ rfl, e (m.len / 256) _ rfl, e (m.len / 65536) (m.len / 65536) (by omega)]
  rfl
theorem text7 (m : MkR) (hr : RightM m) (w1 : World) : (convert 47 9 (.slice (some ⟨w1.heap.size, 0, none⟩) 7 7)).run Tryd.prog (w1.alloc (.cells #[.int .u8 181, .int .u8 m.kind, .int .u8 m.cls, .int .u8 m.ep, .int .u8 (m.len % 256), .int .u8 (m.len / 256 % 256), .int .u8 (m.len / 65536)] 5)) =
    .ok (.string ⟨(bytes7 m).toArray⟩) (w1.alloc (.cells #[.int .u8 181, .int .u8 m.kind, .int .u8 m.cls, .int .u8 m.ep, .int .u8 (m.len % 256), .int .u8 (m.len / 256 % 256), .int .u8 (m.len / 65536)] 5)) := by
  rw [cells7 m hr]
  exact run_text_of (P := Tryd.prog) (w1.alloc (.cells (bts (bytes7 m)) 5)) 47 9 5 (some ⟨w1.heap.size, 0, none⟩) 7 7 0 w1.heap.size (bytes7 m) 5 Tryd.underlying47 Tryd.underlying5 Tryd.underlying9 (Blk.new _ _ _) (fun _ => rfl) (by show 0 + 7 ≤ 7; decide)
theorem text1 (b : UInt8) (w1 : World) : (convert 47 9 (.slice (some ⟨w1.heap.size, 0, none⟩) 1 1)).run Tryd.prog (w1.alloc (.cells #[.int .u8 (b.toNat : Int)] 5)) = .ok (.string ⟨#[b]⟩) (w1.alloc (.cells #[.int .u8 (b.toNat : Int)] 5)) :=
  run_text_of (P := Tryd.prog) (w1.alloc (.cells (bts [b]) 5)) 47 9 5 (some ⟨w1.heap.size, 0, none⟩) 1 1 0 w1.heap.size [b] 5 Tryd.underlying47 Tryd.underlying5 Tryd.underlying9 (Blk.new _ _ _) (fun _ => rfl) (by show 0 + 1 ≤ 1; decide)
theorem app_enc (m : MkR) : (⟨(bytes7 m).toArray⟩ ++ ⟨#[xorL (bytes7 m)]⟩ : ByteArray) = ⟨(encS m).toArray⟩ := by
  apply ByteArray.ext
  rw [ByteArray.data_append]
  simp [encS]
section
set_option maxHeartbeats 1000000 in
theorem rencode_no (m : MkR) (hr : rightM m = false) (w : World) :
    Calls Tryd.prog 11 #[mkV m] w fun e w' => e = .returned (.tuple #[.string ⟨#[]⟩, .int .i64 60]) ∧ Ext w w' := by
  have E1 := ext1 w (.cells (mkC m) 23)
  have R := Lib.hid (fun W => hr ▸ rright_is m W)
  have HE := Lib.hid E1
  clear hr E1
  go_enter Tryd.func11, Tryd.ntmps11
  go_wp2_with (first | (go_at_call 16; refine (R.out _).mono ?_; rintro e w1 ⟨rfl, h1⟩; have hX := Ext.trans HE.out h1; clear h1))
  go_ret2
  exact ⟨rfl, hX⟩
set_option maxHeartbeats 1000000 in
set_option maxRecDepth 100000 in
theorem rencode_ok (m : MkR) (hr : rightM m = true) (w : World) :
    Calls Tryd.prog 11 #[mkV m] w fun e w' => e = .returned (.tuple #[.string ⟨(encS m).toArray⟩, .int .i64 0]) ∧ Ext w w' := by
  have E1 := ext1 w (.cells (mkC m) 23)
  have b1 := Blk.new w (mkC m) 23
  have R := Lib.hid (fun W => hr ▸ rright_is m W)
  have V := Lib.hid (fun W => reven_is (bytes7 m) (by show 7 ≤ 100; decide) W)
  have HE := Lib.hid (And.intro E1 b1)
  have hRM := right_iff.1 hr
  have K7 := Lib.hid (text7 m hRM)
  have K1 := Lib.hid (text1 (xorL (bytes7 m)))
  have HA := Lib.hid (app_enc m)
  obtain ⟨r1, r2, r3, r4, r5, r6, r7, r8⟩ := hRM
  clear hr E1 b1
  obtain ⟨X, hX⟩ : ∃ X : ByteArray, ⟨(bytes7 m).toArray⟩ = X := ⟨_, rfl⟩
  obtain ⟨Y, hY⟩ : ∃ Y : ByteArray, ⟨#[xorL (bytes7 m)]⟩ = Y := ⟨_, rfl⟩
  obtain ⟨z, hz⟩ : ∃ z : Int, ((xorL (bytes7 m)).toNat : Int) = z := ⟨_, rfl⟩
  rw [hX, hz] at V
  rw [hX] at K7
  rw [hY, hz] at K1
  rw [hX, hY] at HA
  have x7 : X.size = 7 := by rw [← hX]; rfl
  have y1 : Y.size = 1 := by rw [← hY]; rfl
  clear hX hY hz
  go_enter Tryd.func11, Tryd.ntmps11
  go_wp2_with (first | (go_at_call 16; refine (R.out _).mono ?_; rintro e w1 ⟨rfl, h1⟩; obtain ⟨p0, p1, p2, p3⟩ := cells_mk (HE.out.2.ext h1); have hX := Ext.trans HE.out.1 h1; clear h1; have kc := K7.out w1) | (go_at_call 33; refine (V.out _).mono ?_; rintro e w2 ⟨rfl, rfl⟩; have kd := K1.out (w1.alloc (.cells #[.int .u8 181, .int .u8 m.kind, .int .u8 m.cls, .int .u8 m.ep, .int .u8 (m.len % 256), .int .u8 (m.len / 256 % 256), .int .u8 (m.len / 65536)] 5)); rw [World.size_alloc] at kd))
  go_ret2
  exact ⟨ret_val (by show Value.tuple #[.string (X ++ Y), .int .i64 0] = _; rw [HA.out]), Ext.trans hX (ext2 _ _ _)⟩
theorem rencode_is (m : MkR) (w : World) : Calls Tryd.prog 11 #[mkV m] w fun e w' => e = .returned (.tuple #[.string ⟨(encV m).toArray⟩, .int .i64 (encE m)]) ∧ Ext w w' := by
  unfold encV encE
  rcases hr : rightM m with _ | _
  · exact rencode_no m hr w
  · exact rencode_ok m hr w
end
end H
end Go.Proofs.YtfpefffgegphnaaDoor
