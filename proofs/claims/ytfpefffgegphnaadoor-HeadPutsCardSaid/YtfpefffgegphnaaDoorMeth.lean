/- arena: Byte, Put, Read, Write, Zero (made by gen_meth.py). -/
import Derived.Test.YtfpefffgegphnaaDoorSmall
namespace Go.Proofs.YtfpefffgegphnaaDoor
open Go.RowKit Go
section
variable {a : Nat → Addr}
theorem getD_lt (L : List UInt8) (k : Nat) : ((L.getD k 0).toNat : Int) < 256 := by have := (L.getD k 0).toNat_lt; omega
set_option maxHeartbeats 1000000 in
set_option maxRecDepth 100000 in
theorem read_no (p g : Nat) (L : List UInt8) (x y : Int) (h : ¬ (0 ≤ x ∧ 0 ≤ y ∧ x + y ≤ L.length)) (w : World) (hG : G a w) (hA : Ar w p g L) :
    Calls Tryd.prog 27 #[ptr p, .int .i64 x, .int .i64 y] w fun e w' => e = .returned (.tuple #[.string ⟨#[]⟩, .int .i64 10]) ∧ Ext w w' := by
  have N := Lib.hid (fun W (hW : Ext w W) => asErr (a := a) .nilIface rfl (noArena_ok p g L W (hG.ext hW) (hA.ext hW)))
  have O := Lib.hid (fun b t W (hW : Ext w W) (hB : Blk W b #[.int .i64 x, .int .i64 y] t) => outside_no (a := a) p g L x y (by omega) b t W (hG.ext hW) (hA.ext hW) hB)
  have T := Lib.hid (fun b t W (hW : Ext w W) (hB : Blk W b #[.nilIface, eA a] t) => (tell2 (a := a) 0 3 (by decide) (by decide) 10 rfl b t W (hG.ext hW) hB).mono fun e w' ⟨he, hw⟩ => (⟨he, hw ▸ hW⟩ : _ ∧ Ext w w'))
  have AR := Lib.hid (fun W (hW : Ext w W) => hA.ext hW)
  have hle := hA.le
  clear hG hA
  go_enter Tryd.func27, Tryd.ntmps27
  go_wp2_with (first
    | (go_at_call 40; refine (N.out _ (Ext.refl _)).mono ?_; rintro e w1 ⟨rfl, hX⟩)
    | (go_at_call 41; refine (O.out _ _ _ (Ext.trans hX (ext1 _ _)) (Blk.new _ _ _)).mono ?_; rintro e w2 ⟨rfl, h2⟩; replace hX := Ext.trans (Ext.trans hX (ext1 _ _)) h2; clear h2)
    | (go_at_call 37; refine (T.out _ _ _ (Ext.trans hX (ext1 _ _)) (Blk.new _ _ _)).mono ?_; rintro e w3 ⟨rfl, h3⟩; replace hX := h3; clear h3))
  go_ret2
  exact ⟨rfl, hX⟩

set_option maxHeartbeats 1000000 in
set_option maxRecDepth 100000 in
theorem read_ok (p g : Nat) (L : List UInt8) (x y : Int) (h : 0 ≤ x ∧ 0 ≤ y ∧ x + y ≤ L.length) (w : World) (hG : G a w) (hA : Ar w p g L) :
    Calls Tryd.prog 27 #[ptr p, .int .i64 x, .int .i64 y] w fun e w' => e = .returned (.tuple #[.string ⟨(cut L x.toNat y.toNat).toArray⟩, .int .i64 0]) ∧ Ext w w' := by
  have N := Lib.hid (fun W (hW : Ext w W) => asErr (a := a) .nilIface rfl (noArena_ok p g L W (hG.ext hW) (hA.ext hW)))
  have O := Lib.hid (fun b t W (hW : Ext w W) (hB : Blk W b #[.int .i64 x, .int .i64 y] t) => outside_ok (a := a) p g L x y (by omega) b t W (hG.ext hW) (hA.ext hW) hB)
  have T := Lib.hid (fun b t W (hW : Ext w W) (hB : Blk W b #[.nilIface, .nilIface] t) => (tell2 (a := a) 0 0 (by decide) (by decide) 0 rfl b t W (hG.ext hW) hB).mono fun e w' ⟨he, hw⟩ => (⟨he, hw ▸ hW⟩ : _ ∧ Ext w w'))
  have AR := Lib.hid (fun W (hW : Ext w W) => hA.ext hW)
  have hle := hA.le
  clear hG hA
  go_enter Tryd.func27, Tryd.ntmps27
  go_wp2_with (first
    | (go_at_call 40; refine (N.out _ (Ext.refl _)).mono ?_; rintro e w1 ⟨rfl, hX⟩)
    | (go_at_call 41; refine (O.out _ _ _ (Ext.trans hX (ext1 _ _)) (Blk.new _ _ _)).mono ?_; rintro e w2 ⟨rfl, h2⟩; replace hX := Ext.trans (Ext.trans hX (ext1 _ _)) h2; clear h2)
    | (go_at_call 37; refine (T.out _ _ _ (Ext.trans hX (ext1 _ _)) (Blk.new _ _ _)).mono ?_; rintro e w3 ⟨rfl, h3⟩; replace hX := h3; clear h3)
    | (go_at_call 42; refine (part_any p g L x y (by omega) _ (AR.out _ hX)).mono ?_; rintro e w4 ⟨⟨q, c, rfl, hq⟩, rfl⟩; have kc := run_text_of (P := Tryd.prog) _ 47 9 5 q c y.toNat x.toNat g L 5 Tryd.underlying47 Tryd.underlying5 Tryd.underlying9 (AR.out _ hX).b hq (by omega); clear hq))
  go_ret2
  exact ⟨rfl, hX⟩

set_option maxHeartbeats 1000000 in
set_option maxRecDepth 100000 in
theorem write_no (p g : Nat) (L : List UInt8) (x : Int) (S : List UInt8) (h : ¬ (0 ≤ x ∧ x + S.length ≤ L.length)) (w : World) (hG : G a w) (hA : Ar w p g L) :
    Calls Tryd.prog 23 #[ptr p, .int .i64 x, .string ⟨S.toArray⟩] w fun e w' => e = .returned (.int .i64 10) ∧ Ext w w' := by
  have N := Lib.hid (fun W (hW : Ext w W) => asErr (a := a) .nilIface rfl (noArena_ok p g L W (hG.ext hW) (hA.ext hW)))
  have O := Lib.hid (fun b t W (hW : Ext w W) (hB : Blk W b #[.int .i64 x, .int .i64 (S.length : Int)] t) => outside_no (a := a) p g L x (S.length : Int) (by omega) b t W (hG.ext hW) (hA.ext hW) hB)
  have T := Lib.hid (fun b t W (hW : Ext w W) (hB : Blk W b #[.nilIface, eA a] t) => (tell2 (a := a) 0 3 (by decide) (by decide) 10 rfl b t W (hG.ext hW) hB).mono fun e w' ⟨he, hw⟩ => (⟨he, hw ▸ hW⟩ : _ ∧ Ext w w'))
  have AR := Lib.hid (fun W (hW : Ext w W) => hA.ext hW)
  have hle := hA.le
  clear hG hA
  have hsz : (⟨S.toArray⟩ : ByteArray).size = S.length := by simp [ByteArray.size]
  go_enter Tryd.func23, Tryd.ntmps23
  go_wp2_with (first
    | (go_at_call 40; refine (N.out _ (Ext.refl _)).mono ?_; rintro e w1 ⟨rfl, hX⟩)
    | (go_at_call 41; refine (O.out _ _ _ (Ext.trans hX (ext1 _ _)) (Blk.new _ _ _)).mono ?_; rintro e w2 ⟨rfl, h2⟩; replace hX := Ext.trans (Ext.trans hX (ext1 _ _)) h2; clear h2)
    | (go_at_call 37; refine (T.out _ _ _ (Ext.trans hX (ext1 _ _)) (Blk.new _ _ _)).mono ?_; rintro e w3 ⟨rfl, h3⟩; replace hX := h3; clear h3))
  go_ret
  exact ⟨rfl, hX⟩

set_option maxHeartbeats 1000000 in
set_option maxRecDepth 100000 in
theorem write_ok (p g : Nat) (L : List UInt8) (x : Int) (S : List UInt8) (h : 0 ≤ x ∧ x + S.length ≤ L.length) (w : World) (hG : G a w) (hA : Ar w p g L) :
    Calls Tryd.prog 23 #[ptr p, .int .i64 x, .string ⟨S.toArray⟩] w fun e w' => e = .returned (.int .i64 0) ∧ Chg g w w' ∧ Ar w' p g (lay L x.toNat S) := by
  have N := Lib.hid (fun W (hW : Ext w W) => asErr (a := a) .nilIface rfl (noArena_ok p g L W (hG.ext hW) (hA.ext hW)))
  have O := Lib.hid (fun b t W (hW : Ext w W) (hB : Blk W b #[.int .i64 x, .int .i64 (S.length : Int)] t) => outside_ok (a := a) p g L x (S.length : Int) (by omega) b t W (hG.ext hW) (hA.ext hW) hB)
  have T := Lib.hid (fun b t W (hW : Ext w W) (hB : Blk W b #[.nilIface, .nilIface] t) => (tell2 (a := a) 0 0 (by decide) (by decide) 0 rfl b t W (hG.ext hW) hB).mono fun e w' ⟨he, hw⟩ => (⟨he, hw ▸ hW⟩ : _ ∧ Ext w w'))
  have AR := Lib.hid (fun W (hW : Ext w W) => hA.ext hW)
  have hle := hA.le
  clear hG hA
  have hsz : (⟨S.toArray⟩ : ByteArray).size = S.length := by simp [ByteArray.size]
  go_enter Tryd.func23, Tryd.ntmps23
  go_wp2_with (first
    | (go_at_call 40; refine (N.out _ (Ext.refl _)).mono ?_; rintro e w1 ⟨rfl, hX⟩)
    | (go_at_call 41; refine (O.out _ _ _ (Ext.trans hX (ext1 _ _)) (Blk.new _ _ _)).mono ?_; rintro e w2 ⟨rfl, h2⟩; replace hX := Ext.trans (Ext.trans hX (ext1 _ _)) h2; clear h2)
    | (go_at_call 37; refine (T.out _ _ _ (Ext.trans hX (ext1 _ _)) (Blk.new _ _ _)).mono ?_; rintro e w3 ⟨rfl, h3⟩; replace hX := h3; clear h3)
    | (go_at_call 42; refine (part_any p g L x (S.length : Int) (by omega) _ (AR.out _ hX)).mono ?_; rintro e w4 ⟨⟨q, c, rfl, hq⟩, rfl⟩; obtain ⟨w5, kc, hc5, hb5⟩ := copy_text_some (P := Tryd.prog) _ 47 9 5 Tryd.underlying47 (by kernel_rfl) q (S.length : Int).toNat c S L (by omega) g x.toNat 5 (AR.out _ hX).b (by simpa using hq) (by omega); have hZ := Lib.hid (And.intro ((Chg.of_ext hX).trans hc5) ((AR.out _ hX).chg hc5 hb5 (lay_len L x.toNat _ (by omega)))); simp only [Int.toNat_natCast] at kc; clear hc5 hb5 hq))
  go_ret
  exact ⟨rfl, hZ.out⟩

end
end Go.Proofs.YtfpefffgegphnaaDoor
