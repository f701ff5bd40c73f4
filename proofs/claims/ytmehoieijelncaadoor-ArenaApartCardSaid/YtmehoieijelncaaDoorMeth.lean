/- arena: Byte, Put, Read, Write, Zero (made by gen_meth.py). -/
import Derived.Test.YtmehoieijelncaaDoorSmall
namespace Go.Proofs.YtmehoieijelncaaDoor
open Go.RowKit Go
section
variable {a : Nat → Addr}
theorem getD_lt (L : List UInt8) (k : Nat) : ((L.getD k 0).toNat : Int) < 256 := by have := (L.getD k 0).toNat_lt; omega
set_option maxHeartbeats 1000000 in
set_option maxRecDepth 100000 in
theorem read_no (p g : Nat) (L : List UInt8) (x y : Int) (h : ¬ (0 ≤ x ∧ 0 ≤ y ∧ x + y ≤ L.length)) (w : World) (hG : G a w) (hA : Ar w p g L) :
    Calls Tryd.prog 18 #[ptr p, .int .i64 x, .int .i64 y] w fun e w' => e = .returned (.tuple #[.string ⟨#[]⟩, .int .i64 10]) ∧ Ext w w' := by
  have N := Lib.hid (fun W (hW : Ext w W) => asErr (a := a) .nilIface rfl (noArena_ok p g L W (hG.ext hW) (hA.ext hW)))
  have O := Lib.hid (fun b t W (hW : Ext w W) (hB : Blk W b #[.int .i64 x, .int .i64 y] t) => outside_no (a := a) p g L x y (by omega) b t W (hG.ext hW) (hA.ext hW) hB)
  have T := Lib.hid (fun b t W (hW : Ext w W) (hB : Blk W b #[.nilIface, eA a] t) => (tell2 (a := a) 0 3 (by decide) (by decide) 10 rfl b t W (hG.ext hW) hB).mono fun e w' ⟨he, hw⟩ => (⟨he, hw ▸ hW⟩ : _ ∧ Ext w w'))
  have AR := Lib.hid (fun W (hW : Ext w W) => hA.ext hW)
  have hle := hA.le
  clear hG hA
  go_enter Tryd.func18, Tryd.ntmps18
  go_wp2_with (first
    | (go_at_call 29; refine (N.out _ (Ext.refl _)).mono ?_; rintro e w1 ⟨rfl, hX⟩)
    | (go_at_call 30; refine (O.out _ _ _ (Ext.trans hX (ext1 _ _)) (Blk.new _ _ _)).mono ?_; rintro e w2 ⟨rfl, h2⟩; replace hX := Ext.trans (Ext.trans hX (ext1 _ _)) h2; clear h2)
    | (go_at_call 28; refine (T.out _ _ _ (Ext.trans hX (ext1 _ _)) (Blk.new _ _ _)).mono ?_; rintro e w3 ⟨rfl, h3⟩; replace hX := h3; clear h3))
  go_ret2
  exact ⟨rfl, hX⟩

set_option maxHeartbeats 1000000 in
set_option maxRecDepth 100000 in
theorem read_ok (p g : Nat) (L : List UInt8) (x y : Int) (h : 0 ≤ x ∧ 0 ≤ y ∧ x + y ≤ L.length) (w : World) (hG : G a w) (hA : Ar w p g L) :
    Calls Tryd.prog 18 #[ptr p, .int .i64 x, .int .i64 y] w fun e w' => e = .returned (.tuple #[.string ⟨(cut L x.toNat y.toNat).toArray⟩, .int .i64 0]) ∧ Ext w w' := by
  have N := Lib.hid (fun W (hW : Ext w W) => asErr (a := a) .nilIface rfl (noArena_ok p g L W (hG.ext hW) (hA.ext hW)))
  have O := Lib.hid (fun b t W (hW : Ext w W) (hB : Blk W b #[.int .i64 x, .int .i64 y] t) => outside_ok (a := a) p g L x y (by omega) b t W (hG.ext hW) (hA.ext hW) hB)
  have T := Lib.hid (fun b t W (hW : Ext w W) (hB : Blk W b #[.nilIface, .nilIface] t) => (tell2 (a := a) 0 0 (by decide) (by decide) 0 rfl b t W (hG.ext hW) hB).mono fun e w' ⟨he, hw⟩ => (⟨he, hw ▸ hW⟩ : _ ∧ Ext w w'))
  have AR := Lib.hid (fun W (hW : Ext w W) => hA.ext hW)
  have hle := hA.le
  clear hG hA
  go_enter Tryd.func18, Tryd.ntmps18
  go_wp2_with (first
    | (go_at_call 29; refine (N.out _ (Ext.refl _)).mono ?_; rintro e w1 ⟨rfl, hX⟩)
    | (go_at_call 30; refine (O.out _ _ _ (Ext.trans hX (ext1 _ _)) (Blk.new _ _ _)).mono ?_; rintro e w2 ⟨rfl, h2⟩; replace hX := Ext.trans (Ext.trans hX (ext1 _ _)) h2; clear h2)
    | (go_at_call 28; refine (T.out _ _ _ (Ext.trans hX (ext1 _ _)) (Blk.new _ _ _)).mono ?_; rintro e w3 ⟨rfl, h3⟩; replace hX := h3; clear h3)
    | (go_at_call 31; refine (part_any p g L x y (by omega) _ (AR.out _ hX)).mono ?_; rintro e w4 ⟨⟨q, c, rfl, hq⟩, rfl⟩; have kc := run_text_of (P := Tryd.prog) _ 43 9 5 q c y.toNat x.toNat g L 5 Tryd.underlying43 Tryd.underlying5 Tryd.underlying9 (AR.out _ hX).b hq (by omega); clear hq))
  go_ret2
  exact ⟨rfl, hX⟩

set_option maxHeartbeats 1000000 in
set_option maxRecDepth 100000 in
theorem zero_no (p g : Nat) (L : List UInt8) (x y : Int) (h : ¬ (0 ≤ x ∧ 0 ≤ y ∧ x + y ≤ L.length)) (w : World) (hG : G a w) (hA : Ar w p g L) :
    Calls Tryd.prog 15 #[ptr p, .int .i64 x, .int .i64 y] w fun e w' => e = .returned (.int .i64 10) ∧ Ext w w' := by
  have N := Lib.hid (fun W (hW : Ext w W) => asErr (a := a) .nilIface rfl (noArena_ok p g L W (hG.ext hW) (hA.ext hW)))
  have O := Lib.hid (fun b t W (hW : Ext w W) (hB : Blk W b #[.int .i64 x, .int .i64 y] t) => outside_no (a := a) p g L x y (by omega) b t W (hG.ext hW) (hA.ext hW) hB)
  have T := Lib.hid (fun b t W (hW : Ext w W) (hB : Blk W b #[.nilIface, eA a] t) => (tell2 (a := a) 0 3 (by decide) (by decide) 10 rfl b t W (hG.ext hW) hB).mono fun e w' ⟨he, hw⟩ => (⟨he, hw ▸ hW⟩ : _ ∧ Ext w w'))
  have AR := Lib.hid (fun W (hW : Ext w W) => hA.ext hW)
  have hle := hA.le
  clear hG hA
  go_enter Tryd.func15, Tryd.ntmps15
  go_wp2_with (first
    | (go_at_call 29; refine (N.out _ (Ext.refl _)).mono ?_; rintro e w1 ⟨rfl, hX⟩)
    | (go_at_call 30; refine (O.out _ _ _ (Ext.trans hX (ext1 _ _)) (Blk.new _ _ _)).mono ?_; rintro e w2 ⟨rfl, h2⟩; replace hX := Ext.trans (Ext.trans hX (ext1 _ _)) h2; clear h2)
    | (go_at_call 28; refine (T.out _ _ _ (Ext.trans hX (ext1 _ _)) (Blk.new _ _ _)).mono ?_; rintro e w3 ⟨rfl, h3⟩; replace hX := h3; clear h3))
  go_ret
  exact ⟨rfl, hX⟩

set_option maxHeartbeats 1000000 in
set_option maxRecDepth 100000 in
theorem zero_ok (p g : Nat) (L : List UInt8) (x y : Int) (h : 0 ≤ x ∧ 0 ≤ y ∧ x + y ≤ L.length) (w : World) (hG : G a w) (hA : Ar w p g L) :
    Calls Tryd.prog 15 #[ptr p, .int .i64 x, .int .i64 y] w fun e w' => e = .returned (.int .i64 0) ∧ Chg g w w' ∧ Ar w' p g (lay L x.toNat (List.replicate y.toNat 0)) := by
  have N := Lib.hid (fun W (hW : Ext w W) => asErr (a := a) .nilIface rfl (noArena_ok p g L W (hG.ext hW) (hA.ext hW)))
  have O := Lib.hid (fun b t W (hW : Ext w W) (hB : Blk W b #[.int .i64 x, .int .i64 y] t) => outside_ok (a := a) p g L x y (by omega) b t W (hG.ext hW) (hA.ext hW) hB)
  have T := Lib.hid (fun b t W (hW : Ext w W) (hB : Blk W b #[.nilIface, .nilIface] t) => (tell2 (a := a) 0 0 (by decide) (by decide) 0 rfl b t W (hG.ext hW) hB).mono fun e w' ⟨he, hw⟩ => (⟨he, hw ▸ hW⟩ : _ ∧ Ext w w'))
  have AR := Lib.hid (fun W (hW : Ext w W) => hA.ext hW)
  have hle := hA.le
  clear hG hA
  go_enter Tryd.func15, Tryd.ntmps15
  go_wp2_with (first
    | (go_at_call 29; refine (N.out _ (Ext.refl _)).mono ?_; rintro e w1 ⟨rfl, hX⟩)
    | (go_at_call 30; refine (O.out _ _ _ (Ext.trans hX (ext1 _ _)) (Blk.new _ _ _)).mono ?_; rintro e w2 ⟨rfl, h2⟩; replace hX := Ext.trans (Ext.trans hX (ext1 _ _)) h2; clear h2)
    | (go_at_call 28; refine (T.out _ _ _ (Ext.trans hX (ext1 _ _)) (Blk.new _ _ _)).mono ?_; rintro e w3 ⟨rfl, h3⟩; replace hX := h3; clear h3)
    | (go_at_call 31; refine (part_any p g L x y (by omega) _ (AR.out _ hX)).mono ?_; rintro e w4 ⟨⟨q, c, rfl, hq⟩, rfl⟩; obtain ⟨w5, kc, hc5, hb5⟩ := clear_some (P := Tryd.prog) _ 43 5 Tryd.underlying43 (by kernel_rfl) q y.toNat c L g x.toNat 5 (AR.out _ hX).b hq (by omega); have hZ := Lib.hid (And.intro ((Chg.of_ext hX).trans hc5) ((AR.out _ hX).chg hc5 hb5 (lay_len L x.toNat _ (by rw [List.length_replicate]; omega)))); clear hc5 hb5 hq))
  go_ret
  exact ⟨rfl, hZ.out⟩

set_option maxHeartbeats 1000000 in
set_option maxRecDepth 100000 in
theorem write_no (p g : Nat) (L : List UInt8) (x : Int) (S : List UInt8) (h : ¬ (0 ≤ x ∧ x + S.length ≤ L.length)) (w : World) (hG : G a w) (hA : Ar w p g L) :
    Calls Tryd.prog 22 #[ptr p, .int .i64 x, .string ⟨S.toArray⟩] w fun e w' => e = .returned (.int .i64 10) ∧ Ext w w' := by
  have N := Lib.hid (fun W (hW : Ext w W) => asErr (a := a) .nilIface rfl (noArena_ok p g L W (hG.ext hW) (hA.ext hW)))
  have O := Lib.hid (fun b t W (hW : Ext w W) (hB : Blk W b #[.int .i64 x, .int .i64 (S.length : Int)] t) => outside_no (a := a) p g L x (S.length : Int) (by omega) b t W (hG.ext hW) (hA.ext hW) hB)
  have T := Lib.hid (fun b t W (hW : Ext w W) (hB : Blk W b #[.nilIface, eA a] t) => (tell2 (a := a) 0 3 (by decide) (by decide) 10 rfl b t W (hG.ext hW) hB).mono fun e w' ⟨he, hw⟩ => (⟨he, hw ▸ hW⟩ : _ ∧ Ext w w'))
  have AR := Lib.hid (fun W (hW : Ext w W) => hA.ext hW)
  have hle := hA.le
  clear hG hA
  have hsz : (⟨S.toArray⟩ : ByteArray).size = S.length := by simp [ByteArray.size]
  go_enter Tryd.func22, Tryd.ntmps22
  go_wp2_with (first
    | (go_at_call 29; refine (N.out _ (Ext.refl _)).mono ?_; rintro e w1 ⟨rfl, hX⟩)
    | (go_at_call 30; refine (O.out _ _ _ (Ext.trans hX (ext1 _ _)) (Blk.new _ _ _)).mono ?_; rintro e w2 ⟨rfl, h2⟩; replace hX := Ext.trans (Ext.trans hX (ext1 _ _)) h2; clear h2)
    | (go_at_call 28; refine (T.out _ _ _ (Ext.trans hX (ext1 _ _)) (Blk.new _ _ _)).mono ?_; rintro e w3 ⟨rfl, h3⟩; replace hX := h3; clear h3))
  go_ret
  exact ⟨rfl, hX⟩

set_option maxHeartbeats 1000000 in
set_option maxRecDepth 100000 in
theorem write_ok (p g : Nat) (L : List UInt8) (x : Int) (S : List UInt8) (h : 0 ≤ x ∧ x + S.length ≤ L.length) (w : World) (hG : G a w) (hA : Ar w p g L) :
    Calls Tryd.prog 22 #[ptr p, .int .i64 x, .string ⟨S.toArray⟩] w fun e w' => e = .returned (.int .i64 0) ∧ Chg g w w' ∧ Ar w' p g (lay L x.toNat S) := by
  have N := Lib.hid (fun W (hW : Ext w W) => asErr (a := a) .nilIface rfl (noArena_ok p g L W (hG.ext hW) (hA.ext hW)))
  have O := Lib.hid (fun b t W (hW : Ext w W) (hB : Blk W b #[.int .i64 x, .int .i64 (S.length : Int)] t) => outside_ok (a := a) p g L x (S.length : Int) (by omega) b t W (hG.ext hW) (hA.ext hW) hB)
  have T := Lib.hid (fun b t W (hW : Ext w W) (hB : Blk W b #[.nilIface, .nilIface] t) => (tell2 (a := a) 0 0 (by decide) (by decide) 0 rfl b t W (hG.ext hW) hB).mono fun e w' ⟨he, hw⟩ => (⟨he, hw ▸ hW⟩ : _ ∧ Ext w w'))
  have AR := Lib.hid (fun W (hW : Ext w W) => hA.ext hW)
  have hle := hA.le
  clear hG hA
  have hsz : (⟨S.toArray⟩ : ByteArray).size = S.length := by simp [ByteArray.size]
  go_enter Tryd.func22, Tryd.ntmps22
  go_wp2_with (first
    | (go_at_call 29; refine (N.out _ (Ext.refl _)).mono ?_; rintro e w1 ⟨rfl, hX⟩)
    | (go_at_call 30; refine (O.out _ _ _ (Ext.trans hX (ext1 _ _)) (Blk.new _ _ _)).mono ?_; rintro e w2 ⟨rfl, h2⟩; replace hX := Ext.trans (Ext.trans hX (ext1 _ _)) h2; clear h2)
    | (go_at_call 28; refine (T.out _ _ _ (Ext.trans hX (ext1 _ _)) (Blk.new _ _ _)).mono ?_; rintro e w3 ⟨rfl, h3⟩; replace hX := h3; clear h3)
    | (go_at_call 31; refine (part_any p g L x (S.length : Int) (by omega) _ (AR.out _ hX)).mono ?_; rintro e w4 ⟨⟨q, c, rfl, hq⟩, rfl⟩; obtain ⟨w5, kc, hc5, hb5⟩ := copy_text_some (P := Tryd.prog) _ 43 9 5 Tryd.underlying43 (by kernel_rfl) q (S.length : Int).toNat c S L (by omega) g x.toNat 5 (AR.out _ hX).b (by simpa using hq) (by omega); have hZ := Lib.hid (And.intro ((Chg.of_ext hX).trans hc5) ((AR.out _ hX).chg hc5 hb5 (lay_len L x.toNat _ (by omega)))); simp only [Int.toNat_natCast] at kc; clear hc5 hb5 hq))
  go_ret
  exact ⟨rfl, hZ.out⟩

set_option maxHeartbeats 1000000 in
set_option maxRecDepth 100000 in
theorem byte_no (p g : Nat) (L : List UInt8) (x : Int) (h : ¬ (0 ≤ x ∧ x < L.length)) (w : World) (hG : G a w) (hA : Ar w p g L) :
    Calls Tryd.prog 25 #[ptr p, .int .i64 x] w fun e w' => e = .returned (.tuple #[.int .i64 0, .int .i64 10]) ∧ Ext w w' := by
  have N := Lib.hid (fun W (hW : Ext w W) => asErr (a := a) .nilIface rfl (noArena_ok p g L W (hG.ext hW) (hA.ext hW)))
  have O := Lib.hid (fun b t W (hW : Ext w W) (hB : Blk W b #[.int .i64 x, .int .i64 1] t) => outside_no (a := a) p g L x 1 (by omega) b t W (hG.ext hW) (hA.ext hW) hB)
  have T := Lib.hid (fun b t W (hW : Ext w W) (hB : Blk W b #[.nilIface, eA a] t) => (tell2 (a := a) 0 3 (by decide) (by decide) 10 rfl b t W (hG.ext hW) hB).mono fun e w' ⟨he, hw⟩ => (⟨he, hw ▸ hW⟩ : _ ∧ Ext w w'))
  have AR := Lib.hid (fun W (hW : Ext w W) => hA.ext hW)
  have hle := hA.le
  clear hG hA
  go_enter Tryd.func25, Tryd.ntmps25
  go_wp2_with (first
    | (go_at_call 29; refine (N.out _ (Ext.refl _)).mono ?_; rintro e w1 ⟨rfl, hX⟩)
    | (go_at_call 30; refine (O.out _ _ _ (Ext.trans hX (ext1 _ _)) (Blk.new _ _ _)).mono ?_; rintro e w2 ⟨rfl, h2⟩; replace hX := Ext.trans (Ext.trans hX (ext1 _ _)) h2; clear h2)
    | (go_at_call 28; refine (T.out _ _ _ (Ext.trans hX (ext1 _ _)) (Blk.new _ _ _)).mono ?_; rintro e w3 ⟨rfl, h3⟩; replace hX := h3; clear h3))
  go_ret2
  exact ⟨rfl, hX⟩

set_option maxHeartbeats 1000000 in
set_option maxRecDepth 100000 in
theorem byte_ok (p g : Nat) (L : List UInt8) (x : Int) (h : 0 ≤ x ∧ x < L.length) (w : World) (hG : G a w) (hA : Ar w p g L) :
    Calls Tryd.prog 25 #[ptr p, .int .i64 x] w fun e w' => e = .returned (.tuple #[.int .i64 ((L.getD x.toNat 0).toNat : Int), .int .i64 0]) ∧ Ext w w' := by
  obtain ⟨k, hk⟩ : ∃ k : Nat, x = k := ⟨x.toNat, by omega⟩
  have hv8 := getD_lt L k
  obtain ⟨d, hD⟩ : ∃ d : Nat, (L.getD k 0).toNat = d := ⟨_, rfl⟩
  rw [hD] at hv8
  have hd0 : (0 : Int) ≤ d := by omega
  have N := Lib.hid (fun W (hW : Ext w W) => asErr (a := a) .nilIface rfl (noArena_ok p g L W (hG.ext hW) (hA.ext hW)))
  have O := Lib.hid (fun b t W (hW : Ext w W) (hB : Blk W b #[.int .i64 x, .int .i64 1] t) => outside_ok (a := a) p g L x 1 (by omega) b t W (hG.ext hW) (hA.ext hW) hB)
  have T := Lib.hid (fun b t W (hW : Ext w W) (hB : Blk W b #[.nilIface, .nilIface] t) => (tell2 (a := a) 0 0 (by decide) (by decide) 0 rfl b t W (hG.ext hW) hB).mono fun e w' ⟨he, hw⟩ => (⟨he, hw ▸ hW⟩ : _ ∧ Ext w w'))
  have AR := Lib.hid (fun W (hW : Ext w W) => hA.ext hW)
  have hle := hA.le
  clear hG hA
  subst hk
  go_enter Tryd.func25, Tryd.ntmps25
  go_wp2_with (first
    | (go_at_call 29; refine (N.out _ (Ext.refl _)).mono ?_; rintro e w1 ⟨rfl, hX⟩)
    | (go_at_call 30; refine (O.out _ _ _ (Ext.trans hX (ext1 _ _)) (Blk.new _ _ _)).mono ?_; rintro e w2 ⟨rfl, h2⟩; replace hX := Ext.trans (Ext.trans hX (ext1 _ _)) h2; clear h2)
    | (go_at_call 28; refine (T.out _ _ _ (Ext.trans hX (ext1 _ _)) (Blk.new _ _ _)).mono ?_; rintro e w3 ⟨rfl, h3⟩; replace hX := h3; clear h3; have c0 := (AR.out _ hX).p.cell 0; have c1 := ((AR.out _ hX).b.cell k).trans (bts_get' L k (by omega)); rw [hD] at c1; simp only [List.getElem?_toArray, List.getElem?_cons_zero] at c0))
  go_ret2
  exact ⟨ret_val (show Value.tuple #[.int .i64 (d : Int), .int .i64 0] = .tuple #[.int .i64 ((L.getD k 0).toNat : Int), .int .i64 0] by rw [← hD]), hX⟩

set_option maxHeartbeats 1000000 in
set_option maxRecDepth 100000 in
theorem put_no (p g : Nat) (L : List UInt8) (x v : Int) (h : ¬ (0 ≤ x ∧ x < L.length)) (hv : 0 ≤ v ∧ v ≤ 255) (w : World) (hG : G a w) (hA : Ar w p g L) :
    Calls Tryd.prog 26 #[ptr p, .int .i64 x, .int .i64 v] w fun e w' => e = .returned (.int .i64 10) ∧ Ext w w' := by
  have N := Lib.hid (fun W (hW : Ext w W) => asErr (a := a) .nilIface rfl (noArena_ok p g L W (hG.ext hW) (hA.ext hW)))
  have O := Lib.hid (fun b t W (hW : Ext w W) (hB : Blk W b #[.int .i64 x, .int .i64 1] t) => outside_no (a := a) p g L x 1 (by omega) b t W (hG.ext hW) (hA.ext hW) hB)
  have B := Lib.hid (fun W (hW : Ext w W) => noByte_ok (a := a) v hv W (hG.ext hW))
  have T := Lib.hid (fun b t W (hW : Ext w W) (hB : Blk W b #[.nilIface, eA a, .nilIface] t) => (tell3 (a := a) 0 3 0 (by decide) (by decide) (by decide) 10 rfl b t W (hG.ext hW) hB).mono fun e w' ⟨he, hw⟩ => (⟨he, hw ▸ hW⟩ : _ ∧ Ext w w'))
  have AR := Lib.hid (fun W (hW : Ext w W) => hA.ext hW)
  have hle := hA.le
  clear hG hA
  go_enter Tryd.func26, Tryd.ntmps26
  go_wp2_with (first
    | (go_at_call 29; refine (N.out _ (Ext.refl _)).mono ?_; rintro e w1 ⟨rfl, hX⟩)
    | (go_at_call 30; refine (O.out _ _ _ (Ext.trans hX (ext1 _ _)) (Blk.new _ _ _)).mono ?_; rintro e w2 ⟨rfl, h2⟩; replace hX := Ext.trans (Ext.trans hX (ext1 _ _)) h2; clear h2)
    | (go_at_call 43; refine (B.out _ hX).mono ?_; rintro e w2 ⟨rfl, h2⟩; replace hX := Ext.trans hX h2; clear h2)
    | (go_at_call 28; refine (T.out _ _ _ (Ext.trans hX (ext1 _ _)) (Blk.new _ _ _)).mono ?_; rintro e w3 ⟨rfl, h3⟩; replace hX := h3; clear h3))
  go_ret
  exact ⟨rfl, hX⟩

set_option maxHeartbeats 1000000 in
set_option maxRecDepth 100000 in
theorem put_no2 (p g : Nat) (L : List UInt8) (x v : Int) (h : ¬ (0 ≤ x ∧ x < L.length)) (hv : ¬ (0 ≤ v ∧ v ≤ 255)) (w : World) (hG : G a w) (hA : Ar w p g L) :
    Calls Tryd.prog 26 #[ptr p, .int .i64 x, .int .i64 v] w fun e w' => e = .returned (.int .i64 10) ∧ Ext w w' := by
  have N := Lib.hid (fun W (hW : Ext w W) => asErr (a := a) .nilIface rfl (noArena_ok p g L W (hG.ext hW) (hA.ext hW)))
  have O := Lib.hid (fun b t W (hW : Ext w W) (hB : Blk W b #[.int .i64 x, .int .i64 1] t) => outside_no (a := a) p g L x 1 (by omega) b t W (hG.ext hW) (hA.ext hW) hB)
  have B := Lib.hid (fun W (hW : Ext w W) => noByte_no (a := a) v hv W (hG.ext hW))
  have T := Lib.hid (fun b t W (hW : Ext w W) (hB : Blk W b #[.nilIface, eA a, eG a] t) => (tell3 (a := a) 0 3 2 (by decide) (by decide) (by decide) 10 rfl b t W (hG.ext hW) hB).mono fun e w' ⟨he, hw⟩ => (⟨he, hw ▸ hW⟩ : _ ∧ Ext w w'))
  have AR := Lib.hid (fun W (hW : Ext w W) => hA.ext hW)
  have hle := hA.le
  clear hG hA
  go_enter Tryd.func26, Tryd.ntmps26
  go_wp2_with (first
    | (go_at_call 29; refine (N.out _ (Ext.refl _)).mono ?_; rintro e w1 ⟨rfl, hX⟩)
    | (go_at_call 30; refine (O.out _ _ _ (Ext.trans hX (ext1 _ _)) (Blk.new _ _ _)).mono ?_; rintro e w2 ⟨rfl, h2⟩; replace hX := Ext.trans (Ext.trans hX (ext1 _ _)) h2; clear h2)
    | (go_at_call 43; refine (B.out _ hX).mono ?_; rintro e w2 ⟨rfl, h2⟩; replace hX := Ext.trans hX h2; clear h2)
    | (go_at_call 28; refine (T.out _ _ _ (Ext.trans hX (ext1 _ _)) (Blk.new _ _ _)).mono ?_; rintro e w3 ⟨rfl, h3⟩; replace hX := h3; clear h3))
  go_ret
  exact ⟨rfl, hX⟩

set_option maxHeartbeats 1000000 in
set_option maxRecDepth 100000 in
theorem put_arg (p g : Nat) (L : List UInt8) (x v : Int) (h : 0 ≤ x ∧ x < L.length) (hv : ¬ (0 ≤ v ∧ v ≤ 255)) (w : World) (hG : G a w) (hA : Ar w p g L) :
    Calls Tryd.prog 26 #[ptr p, .int .i64 x, .int .i64 v] w fun e w' => e = .returned (.int .i64 2) ∧ Ext w w' := by
  have N := Lib.hid (fun W (hW : Ext w W) => asErr (a := a) .nilIface rfl (noArena_ok p g L W (hG.ext hW) (hA.ext hW)))
  have O := Lib.hid (fun b t W (hW : Ext w W) (hB : Blk W b #[.int .i64 x, .int .i64 1] t) => outside_ok (a := a) p g L x 1 (by omega) b t W (hG.ext hW) (hA.ext hW) hB)
  have B := Lib.hid (fun W (hW : Ext w W) => noByte_no (a := a) v hv W (hG.ext hW))
  have T := Lib.hid (fun b t W (hW : Ext w W) (hB : Blk W b #[.nilIface, .nilIface, eG a] t) => (tell3 (a := a) 0 0 2 (by decide) (by decide) (by decide) 2 rfl b t W (hG.ext hW) hB).mono fun e w' ⟨he, hw⟩ => (⟨he, hw ▸ hW⟩ : _ ∧ Ext w w'))
  have AR := Lib.hid (fun W (hW : Ext w W) => hA.ext hW)
  have hle := hA.le
  clear hG hA
  go_enter Tryd.func26, Tryd.ntmps26
  go_wp2_with (first
    | (go_at_call 29; refine (N.out _ (Ext.refl _)).mono ?_; rintro e w1 ⟨rfl, hX⟩)
    | (go_at_call 30; refine (O.out _ _ _ (Ext.trans hX (ext1 _ _)) (Blk.new _ _ _)).mono ?_; rintro e w2 ⟨rfl, h2⟩; replace hX := Ext.trans (Ext.trans hX (ext1 _ _)) h2; clear h2)
    | (go_at_call 43; refine (B.out _ hX).mono ?_; rintro e w2 ⟨rfl, h2⟩; replace hX := Ext.trans hX h2; clear h2)
    | (go_at_call 28; refine (T.out _ _ _ (Ext.trans hX (ext1 _ _)) (Blk.new _ _ _)).mono ?_; rintro e w3 ⟨rfl, h3⟩; replace hX := h3; clear h3))
  go_ret
  exact ⟨rfl, hX⟩

set_option maxHeartbeats 1000000 in
set_option maxRecDepth 100000 in
theorem put_ok (p g : Nat) (L : List UInt8) (x v : Int) (h : 0 ≤ x ∧ x < L.length) (hv : 0 ≤ v ∧ v ≤ 255) (w : World) (hG : G a w) (hA : Ar w p g L) :
    Calls Tryd.prog 26 #[ptr p, .int .i64 x, .int .i64 v] w fun e w' => e = .returned (.int .i64 0) ∧ Chg g w w' ∧ Ar w' p g (L.set x.toNat (UInt8.ofNat v.toNat)) := by
  obtain ⟨k, hk⟩ : ∃ k : Nat, x = k := ⟨x.toNat, by omega⟩
  obtain ⟨u, hu⟩ : ∃ k : Nat, v = k := ⟨v.toNat, by omega⟩
  have N := Lib.hid (fun W (hW : Ext w W) => asErr (a := a) .nilIface rfl (noArena_ok p g L W (hG.ext hW) (hA.ext hW)))
  have O := Lib.hid (fun b t W (hW : Ext w W) (hB : Blk W b #[.int .i64 x, .int .i64 1] t) => outside_ok (a := a) p g L x 1 (by omega) b t W (hG.ext hW) (hA.ext hW) hB)
  have B := Lib.hid (fun W (hW : Ext w W) => noByte_ok (a := a) v hv W (hG.ext hW))
  have T := Lib.hid (fun b t W (hW : Ext w W) (hB : Blk W b #[.nilIface, .nilIface, .nilIface] t) => (tell3 (a := a) 0 0 0 (by decide) (by decide) (by decide) 0 rfl b t W (hG.ext hW) hB).mono fun e w' ⟨he, hw⟩ => (⟨he, hw ▸ hW⟩ : _ ∧ Ext w w'))
  have AR := Lib.hid (fun W (hW : Ext w W) => hA.ext hW)
  have hle := hA.le
  clear hG hA
  subst hk
  subst hu
  go_enter Tryd.func26, Tryd.ntmps26
  go_wp2_with (first
    | (go_at_call 29; refine (N.out _ (Ext.refl _)).mono ?_; rintro e w1 ⟨rfl, hX⟩)
    | (go_at_call 30; refine (O.out _ _ _ (Ext.trans hX (ext1 _ _)) (Blk.new _ _ _)).mono ?_; rintro e w2 ⟨rfl, h2⟩; replace hX := Ext.trans (Ext.trans hX (ext1 _ _)) h2; clear h2)
    | (go_at_call 43; refine (B.out _ hX).mono ?_; rintro e w2 ⟨rfl, h2⟩; replace hX := Ext.trans hX h2; clear h2)
    | (go_at_call 28; refine (T.out _ _ _ (Ext.trans hX (ext1 _ _)) (Blk.new _ _ _)).mono ?_; rintro e w3 ⟨rfl, h3⟩; replace hX := h3; clear h3; have c0 := (AR.out _ hX).p.cell 0; have c1 := ((AR.out _ hX).b.cell k).trans (bts_get' L k (by omega)); have f1 := (AR.out _ hX).b.frozen k; simp only [List.getElem?_toArray, List.getElem?_cons_zero] at c0; have hA5 := Lib.hid (AR.out _ hX)))
  go_ret
  refine ⟨rfl, (Chg.of_ext hX).setCell _ _, hA5.out.chg ((Chg.refl _ _).setCell _ _) ?_ (by simp)⟩
  have h9 := hA5.out.b.set k (.int .u8 ((UInt8.ofNat u).toNat : Int))
  rw [bts_set, show ((UInt8.ofNat u).toNat : Int) = (u : Int) by rw [UInt8.toNat_ofNat']; omega] at h9
  exact h9
end
end Go.Proofs.YtmehoieijelncaaDoor
