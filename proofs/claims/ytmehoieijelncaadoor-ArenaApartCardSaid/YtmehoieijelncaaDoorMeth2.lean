/- arena: Load, Store (made by gen_meth.py). -/
import Derived.Test.YtmehoieijelncaaDoorWord2
namespace Go.Proofs.YtmehoieijelncaaDoor
open Go.RowKit Go
section
variable {a : Nat → Addr}
set_option maxHeartbeats 1000000 in
set_option maxRecDepth 100000 in
theorem load_no (p g : Nat) (L : List UInt8) (x : Int) (h : ¬ (0 ≤ x ∧ x + 4 ≤ L.length)) (hm : x % 4 = 0) (w : World) (hG : G a w) (hA : Ar w p g L) :
    Calls Tryd.prog 24 #[ptr p, .int .i64 x] w fun e w' => e = .returned (.tuple #[.int .u32 0, .int .i64 10]) ∧ Ext w w' := by
  have N := Lib.hid (fun W (hW : Ext w W) => asErr (a := a) .nilIface rfl (noArena_ok p g L W (hG.ext hW) (hA.ext hW)))
  have O := Lib.hid (fun b t W (hW : Ext w W) (hB : Blk W b #[.int .i64 x, .int .i64 4] t) => outside_no (a := a) p g L x 4 (by omega) b t W (hG.ext hW) (hA.ext hW) hB)
  have WD := Lib.hid (fun W (hW : Ext w W) => noWord_ok (a := a) x hm W (hG.ext hW))
  have T := Lib.hid (fun b t W (hW : Ext w W) (hB : Blk W b #[.nilIface, .nilIface, eA a] t) => (tell3 (a := a) 0 0 3 (by decide) (by decide) (by decide) 10 rfl b t W (hG.ext hW) hB).mono fun e w' ⟨he, hw⟩ => (⟨he, hw ▸ hW⟩ : _ ∧ Ext w w'))
  have AR := Lib.hid (fun W (hW : Ext w W) => hA.ext hW)
  have hle := hA.le
  clear hG hA
  go_enter Tryd.func24, Tryd.ntmps24
  go_wp2_with (first
    | (go_at_call 29; refine (N.out _ (Ext.refl _)).mono ?_; rintro e w1 ⟨rfl, hX⟩)
    | (go_at_call 30; refine (O.out _ _ _ (Ext.trans hX (ext1 _ _)) (Blk.new _ _ _)).mono ?_; rintro e w2 ⟨rfl, h2⟩; replace hX := Ext.trans (Ext.trans hX (ext1 _ _)) h2; clear h2)
    | (go_at_call 40; refine (WD.out _ hX).mono ?_; rintro e w2 ⟨rfl, h2⟩; replace hX := Ext.trans hX h2; clear h2)
    | (go_at_call 28; refine (T.out _ _ _ (Ext.trans hX (ext1 _ _)) (Blk.new _ _ _)).mono ?_; rintro e w3 ⟨rfl, h3⟩; replace hX := h3; clear h3))
  go_ret2
  exact ⟨rfl, hX⟩

set_option maxHeartbeats 1000000 in
set_option maxRecDepth 100000 in
theorem load_no2 (p g : Nat) (L : List UInt8) (x : Int) (h : ¬ (0 ≤ x ∧ x + 4 ≤ L.length)) (hm : ¬ x % 4 = 0) (w : World) (hG : G a w) (hA : Ar w p g L) :
    Calls Tryd.prog 24 #[ptr p, .int .i64 x] w fun e w' => e = .returned (.tuple #[.int .u32 0, .int .i64 10]) ∧ Ext w w' := by
  have N := Lib.hid (fun W (hW : Ext w W) => asErr (a := a) .nilIface rfl (noArena_ok p g L W (hG.ext hW) (hA.ext hW)))
  have O := Lib.hid (fun b t W (hW : Ext w W) (hB : Blk W b #[.int .i64 x, .int .i64 4] t) => outside_no (a := a) p g L x 4 (by omega) b t W (hG.ext hW) (hA.ext hW) hB)
  have WD := Lib.hid (fun W (hW : Ext w W) => noWord_no (a := a) x hm W (hG.ext hW))
  have T := Lib.hid (fun b t W (hW : Ext w W) (hB : Blk W b #[.nilIface, eA a, eA a] t) => (tell3 (a := a) 0 3 3 (by decide) (by decide) (by decide) 10 rfl b t W (hG.ext hW) hB).mono fun e w' ⟨he, hw⟩ => (⟨he, hw ▸ hW⟩ : _ ∧ Ext w w'))
  have AR := Lib.hid (fun W (hW : Ext w W) => hA.ext hW)
  have hle := hA.le
  clear hG hA
  go_enter Tryd.func24, Tryd.ntmps24
  go_wp2_with (first
    | (go_at_call 29; refine (N.out _ (Ext.refl _)).mono ?_; rintro e w1 ⟨rfl, hX⟩)
    | (go_at_call 30; refine (O.out _ _ _ (Ext.trans hX (ext1 _ _)) (Blk.new _ _ _)).mono ?_; rintro e w2 ⟨rfl, h2⟩; replace hX := Ext.trans (Ext.trans hX (ext1 _ _)) h2; clear h2)
    | (go_at_call 40; refine (WD.out _ hX).mono ?_; rintro e w2 ⟨rfl, h2⟩; replace hX := Ext.trans hX h2; clear h2)
    | (go_at_call 28; refine (T.out _ _ _ (Ext.trans hX (ext1 _ _)) (Blk.new _ _ _)).mono ?_; rintro e w3 ⟨rfl, h3⟩; replace hX := h3; clear h3))
  go_ret2
  exact ⟨rfl, hX⟩

set_option maxHeartbeats 1000000 in
set_option maxRecDepth 100000 in
theorem load_no3 (p g : Nat) (L : List UInt8) (x : Int) (h : 0 ≤ x ∧ x + 4 ≤ L.length) (hm : ¬ x % 4 = 0) (w : World) (hG : G a w) (hA : Ar w p g L) :
    Calls Tryd.prog 24 #[ptr p, .int .i64 x] w fun e w' => e = .returned (.tuple #[.int .u32 0, .int .i64 10]) ∧ Ext w w' := by
  have N := Lib.hid (fun W (hW : Ext w W) => asErr (a := a) .nilIface rfl (noArena_ok p g L W (hG.ext hW) (hA.ext hW)))
  have O := Lib.hid (fun b t W (hW : Ext w W) (hB : Blk W b #[.int .i64 x, .int .i64 4] t) => outside_ok (a := a) p g L x 4 (by omega) b t W (hG.ext hW) (hA.ext hW) hB)
  have WD := Lib.hid (fun W (hW : Ext w W) => noWord_no (a := a) x hm W (hG.ext hW))
  have T := Lib.hid (fun b t W (hW : Ext w W) (hB : Blk W b #[.nilIface, eA a, .nilIface] t) => (tell3 (a := a) 0 3 0 (by decide) (by decide) (by decide) 10 rfl b t W (hG.ext hW) hB).mono fun e w' ⟨he, hw⟩ => (⟨he, hw ▸ hW⟩ : _ ∧ Ext w w'))
  have AR := Lib.hid (fun W (hW : Ext w W) => hA.ext hW)
  have hle := hA.le
  clear hG hA
  go_enter Tryd.func24, Tryd.ntmps24
  go_wp2_with (first
    | (go_at_call 29; refine (N.out _ (Ext.refl _)).mono ?_; rintro e w1 ⟨rfl, hX⟩)
    | (go_at_call 30; refine (O.out _ _ _ (Ext.trans hX (ext1 _ _)) (Blk.new _ _ _)).mono ?_; rintro e w2 ⟨rfl, h2⟩; replace hX := Ext.trans (Ext.trans hX (ext1 _ _)) h2; clear h2)
    | (go_at_call 40; refine (WD.out _ hX).mono ?_; rintro e w2 ⟨rfl, h2⟩; replace hX := Ext.trans hX h2; clear h2)
    | (go_at_call 28; refine (T.out _ _ _ (Ext.trans hX (ext1 _ _)) (Blk.new _ _ _)).mono ?_; rintro e w3 ⟨rfl, h3⟩; replace hX := h3; clear h3))
  go_ret2
  exact ⟨rfl, hX⟩

set_option maxHeartbeats 1000000 in
set_option maxRecDepth 100000 in
theorem load_ok (p g : Nat) (L : List UInt8) (x : Int) (h : 0 ≤ x ∧ x + 4 ≤ L.length) (hm : x % 4 = 0) (w : World) (hG : G a w) (hA : Ar w p g L) :
    Calls Tryd.prog 24 #[ptr p, .int .i64 x] w fun e w' => e = .returned (.tuple #[.int .u32 (wv L x.toNat 4 : Nat), .int .i64 0]) ∧ Ext w w' := by
  obtain ⟨k, hk⟩ : ∃ k : Nat, x = k := ⟨x.toNat, by omega⟩
  have N := Lib.hid (fun W (hW : Ext w W) => asErr (a := a) .nilIface rfl (noArena_ok p g L W (hG.ext hW) (hA.ext hW)))
  have O := Lib.hid (fun b t W (hW : Ext w W) (hB : Blk W b #[.int .i64 x, .int .i64 4] t) => outside_ok (a := a) p g L x 4 (by omega) b t W (hG.ext hW) (hA.ext hW) hB)
  have WD := Lib.hid (fun W (hW : Ext w W) => noWord_ok (a := a) x hm W (hG.ext hW))
  have T := Lib.hid (fun b t W (hW : Ext w W) (hB : Blk W b #[.nilIface, .nilIface, .nilIface] t) => (tell3 (a := a) 0 0 0 (by decide) (by decide) (by decide) 0 rfl b t W (hG.ext hW) hB).mono fun e w' ⟨he, hw⟩ => (⟨he, hw ▸ hW⟩ : _ ∧ Ext w w'))
  have AR := Lib.hid (fun W (hW : Ext w W) => hA.ext hW)
  have hle := hA.le
  clear hG hA
  subst hk
  go_enter Tryd.func24, Tryd.ntmps24
  go_wp2_with (first
    | (go_at_call 29; refine (N.out _ (Ext.refl _)).mono ?_; rintro e w1 ⟨rfl, hX⟩)
    | (go_at_call 30; refine (O.out _ _ _ (Ext.trans hX (ext1 _ _)) (Blk.new _ _ _)).mono ?_; rintro e w2 ⟨rfl, h2⟩; replace hX := Ext.trans (Ext.trans hX (ext1 _ _)) h2; clear h2)
    | (go_at_call 40; refine (WD.out _ hX).mono ?_; rintro e w2 ⟨rfl, h2⟩; replace hX := Ext.trans hX h2; clear h2)
    | (go_at_call 28; refine (T.out _ _ _ (Ext.trans hX (ext1 _ _)) (Blk.new _ _ _)).mono ?_; rintro e w3 ⟨rfl, h3⟩; replace hX := h3; clear h3)
    | (go_at_call 42; refine (word_any p g L k (by omega) _ (AR.out _ hX)).mono ?_; rintro e w4 ⟨rfl, h4⟩; replace hX := Ext.trans hX h4; clear h4))
  go_ret2
  exact ⟨rfl, hX⟩

set_option maxHeartbeats 1000000 in
set_option maxRecDepth 100000 in
theorem store_no (p g : Nat) (L : List UInt8) (x : Int) (v : Nat) (h : ¬ (0 ≤ x ∧ x + 4 ≤ L.length)) (hm : x % 4 = 0) (w : World) (hG : G a w) (hA : Ar w p g L) :
    Calls Tryd.prog 23 #[ptr p, .int .i64 x, .int .u32 (v : Nat)] w fun e w' => e = .returned (.int .i64 10) ∧ Ext w w' := by
  have N := Lib.hid (fun W (hW : Ext w W) => asErr (a := a) .nilIface rfl (noArena_ok p g L W (hG.ext hW) (hA.ext hW)))
  have O := Lib.hid (fun b t W (hW : Ext w W) (hB : Blk W b #[.int .i64 x, .int .i64 4] t) => outside_no (a := a) p g L x 4 (by omega) b t W (hG.ext hW) (hA.ext hW) hB)
  have WD := Lib.hid (fun W (hW : Ext w W) => noWord_ok (a := a) x hm W (hG.ext hW))
  have T := Lib.hid (fun b t W (hW : Ext w W) (hB : Blk W b #[.nilIface, .nilIface, eA a] t) => (tell3 (a := a) 0 0 3 (by decide) (by decide) (by decide) 10 rfl b t W (hG.ext hW) hB).mono fun e w' ⟨he, hw⟩ => (⟨he, hw ▸ hW⟩ : _ ∧ Ext w w'))
  have AR := Lib.hid (fun W (hW : Ext w W) => hA.ext hW)
  have hle := hA.le
  clear hG hA
  go_enter Tryd.func23, Tryd.ntmps23
  go_wp2_with (first
    | (go_at_call 29; refine (N.out _ (Ext.refl _)).mono ?_; rintro e w1 ⟨rfl, hX⟩)
    | (go_at_call 30; refine (O.out _ _ _ (Ext.trans hX (ext1 _ _)) (Blk.new _ _ _)).mono ?_; rintro e w2 ⟨rfl, h2⟩; replace hX := Ext.trans (Ext.trans hX (ext1 _ _)) h2; clear h2)
    | (go_at_call 40; refine (WD.out _ hX).mono ?_; rintro e w2 ⟨rfl, h2⟩; replace hX := Ext.trans hX h2; clear h2)
    | (go_at_call 28; refine (T.out _ _ _ (Ext.trans hX (ext1 _ _)) (Blk.new _ _ _)).mono ?_; rintro e w3 ⟨rfl, h3⟩; replace hX := h3; clear h3))
  go_ret
  exact ⟨rfl, hX⟩

set_option maxHeartbeats 1000000 in
set_option maxRecDepth 100000 in
theorem store_no2 (p g : Nat) (L : List UInt8) (x : Int) (v : Nat) (h : ¬ (0 ≤ x ∧ x + 4 ≤ L.length)) (hm : ¬ x % 4 = 0) (w : World) (hG : G a w) (hA : Ar w p g L) :
    Calls Tryd.prog 23 #[ptr p, .int .i64 x, .int .u32 (v : Nat)] w fun e w' => e = .returned (.int .i64 10) ∧ Ext w w' := by
  have N := Lib.hid (fun W (hW : Ext w W) => asErr (a := a) .nilIface rfl (noArena_ok p g L W (hG.ext hW) (hA.ext hW)))
  have O := Lib.hid (fun b t W (hW : Ext w W) (hB : Blk W b #[.int .i64 x, .int .i64 4] t) => outside_no (a := a) p g L x 4 (by omega) b t W (hG.ext hW) (hA.ext hW) hB)
  have WD := Lib.hid (fun W (hW : Ext w W) => noWord_no (a := a) x hm W (hG.ext hW))
  have T := Lib.hid (fun b t W (hW : Ext w W) (hB : Blk W b #[.nilIface, eA a, eA a] t) => (tell3 (a := a) 0 3 3 (by decide) (by decide) (by decide) 10 rfl b t W (hG.ext hW) hB).mono fun e w' ⟨he, hw⟩ => (⟨he, hw ▸ hW⟩ : _ ∧ Ext w w'))
  have AR := Lib.hid (fun W (hW : Ext w W) => hA.ext hW)
  have hle := hA.le
  clear hG hA
  go_enter Tryd.func23, Tryd.ntmps23
  go_wp2_with (first
    | (go_at_call 29; refine (N.out _ (Ext.refl _)).mono ?_; rintro e w1 ⟨rfl, hX⟩)
    | (go_at_call 30; refine (O.out _ _ _ (Ext.trans hX (ext1 _ _)) (Blk.new _ _ _)).mono ?_; rintro e w2 ⟨rfl, h2⟩; replace hX := Ext.trans (Ext.trans hX (ext1 _ _)) h2; clear h2)
    | (go_at_call 40; refine (WD.out _ hX).mono ?_; rintro e w2 ⟨rfl, h2⟩; replace hX := Ext.trans hX h2; clear h2)
    | (go_at_call 28; refine (T.out _ _ _ (Ext.trans hX (ext1 _ _)) (Blk.new _ _ _)).mono ?_; rintro e w3 ⟨rfl, h3⟩; replace hX := h3; clear h3))
  go_ret
  exact ⟨rfl, hX⟩

set_option maxHeartbeats 1000000 in
set_option maxRecDepth 100000 in
theorem store_no3 (p g : Nat) (L : List UInt8) (x : Int) (v : Nat) (h : 0 ≤ x ∧ x + 4 ≤ L.length) (hm : ¬ x % 4 = 0) (w : World) (hG : G a w) (hA : Ar w p g L) :
    Calls Tryd.prog 23 #[ptr p, .int .i64 x, .int .u32 (v : Nat)] w fun e w' => e = .returned (.int .i64 10) ∧ Ext w w' := by
  have N := Lib.hid (fun W (hW : Ext w W) => asErr (a := a) .nilIface rfl (noArena_ok p g L W (hG.ext hW) (hA.ext hW)))
  have O := Lib.hid (fun b t W (hW : Ext w W) (hB : Blk W b #[.int .i64 x, .int .i64 4] t) => outside_ok (a := a) p g L x 4 (by omega) b t W (hG.ext hW) (hA.ext hW) hB)
  have WD := Lib.hid (fun W (hW : Ext w W) => noWord_no (a := a) x hm W (hG.ext hW))
  have T := Lib.hid (fun b t W (hW : Ext w W) (hB : Blk W b #[.nilIface, eA a, .nilIface] t) => (tell3 (a := a) 0 3 0 (by decide) (by decide) (by decide) 10 rfl b t W (hG.ext hW) hB).mono fun e w' ⟨he, hw⟩ => (⟨he, hw ▸ hW⟩ : _ ∧ Ext w w'))
  have AR := Lib.hid (fun W (hW : Ext w W) => hA.ext hW)
  have hle := hA.le
  clear hG hA
  go_enter Tryd.func23, Tryd.ntmps23
  go_wp2_with (first
    | (go_at_call 29; refine (N.out _ (Ext.refl _)).mono ?_; rintro e w1 ⟨rfl, hX⟩)
    | (go_at_call 30; refine (O.out _ _ _ (Ext.trans hX (ext1 _ _)) (Blk.new _ _ _)).mono ?_; rintro e w2 ⟨rfl, h2⟩; replace hX := Ext.trans (Ext.trans hX (ext1 _ _)) h2; clear h2)
    | (go_at_call 40; refine (WD.out _ hX).mono ?_; rintro e w2 ⟨rfl, h2⟩; replace hX := Ext.trans hX h2; clear h2)
    | (go_at_call 28; refine (T.out _ _ _ (Ext.trans hX (ext1 _ _)) (Blk.new _ _ _)).mono ?_; rintro e w3 ⟨rfl, h3⟩; replace hX := h3; clear h3))
  go_ret
  exact ⟨rfl, hX⟩

set_option maxHeartbeats 1000000 in
set_option maxRecDepth 100000 in
theorem store_ok (p g : Nat) (L : List UInt8) (x : Int) (v : Nat) (hv : v < 4294967296) (h : 0 ≤ x ∧ x + 4 ≤ L.length) (hm : x % 4 = 0) (w : World) (hG : G a w) (hA : Ar w p g L) :
    Calls Tryd.prog 23 #[ptr p, .int .i64 x, .int .u32 (v : Nat)] w fun e w' => e = .returned (.int .i64 0) ∧ Chg g w w' ∧ Ar w' p g (lay L x.toNat (wb v)) := by
  obtain ⟨k, hk⟩ : ∃ k : Nat, x = k := ⟨x.toNat, by omega⟩
  have N := Lib.hid (fun W (hW : Ext w W) => asErr (a := a) .nilIface rfl (noArena_ok p g L W (hG.ext hW) (hA.ext hW)))
  have O := Lib.hid (fun b t W (hW : Ext w W) (hB : Blk W b #[.int .i64 x, .int .i64 4] t) => outside_ok (a := a) p g L x 4 (by omega) b t W (hG.ext hW) (hA.ext hW) hB)
  have WD := Lib.hid (fun W (hW : Ext w W) => noWord_ok (a := a) x hm W (hG.ext hW))
  have T := Lib.hid (fun b t W (hW : Ext w W) (hB : Blk W b #[.nilIface, .nilIface, .nilIface] t) => (tell3 (a := a) 0 0 0 (by decide) (by decide) (by decide) 0 rfl b t W (hG.ext hW) hB).mono fun e w' ⟨he, hw⟩ => (⟨he, hw ▸ hW⟩ : _ ∧ Ext w w'))
  have AR := Lib.hid (fun W (hW : Ext w W) => hA.ext hW)
  have hle := hA.le
  clear hG hA
  subst hk
  go_enter Tryd.func23, Tryd.ntmps23
  go_wp2_with (first
    | (go_at_call 29; refine (N.out _ (Ext.refl _)).mono ?_; rintro e w1 ⟨rfl, hX⟩)
    | (go_at_call 30; refine (O.out _ _ _ (Ext.trans hX (ext1 _ _)) (Blk.new _ _ _)).mono ?_; rintro e w2 ⟨rfl, h2⟩; replace hX := Ext.trans (Ext.trans hX (ext1 _ _)) h2; clear h2)
    | (go_at_call 40; refine (WD.out _ hX).mono ?_; rintro e w2 ⟨rfl, h2⟩; replace hX := Ext.trans hX h2; clear h2)
    | (go_at_call 28; refine (T.out _ _ _ (Ext.trans hX (ext1 _ _)) (Blk.new _ _ _)).mono ?_; rintro e w3 ⟨rfl, h3⟩; replace hX := h3; clear h3)
    | (go_at_call 41; refine (setWord_any p g L k (by omega) v hv _ (AR.out _ hX)).mono ?_; rintro e w4 ⟨rfl, h4, h5⟩; have hZ := Lib.hid (And.intro ((Chg.of_ext hX).trans h4) h5); clear h4 h5))
  go_ret
  exact ⟨rfl, hZ.out⟩
end
end Go.Proofs.YtmehoieijelncaaDoor
