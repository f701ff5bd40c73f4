/- head: Right, Encode, Turn. -/
import Derived.Test.YtfpefffgegphnaaDoorToldH
namespace Go.Proofs.YtfpefffgegphnaaDoor
open Go.RowKit Go
namespace H
open HD
section
variable {a b : Nat → Addr}
theorem cells_mk {W : World} {B : Nat} {m : MkR} {t : TypeId} (h : Blk W B (mkC m) t) : W.cell? ⟨B, 0, none⟩ = some (.int .i64 m.kind) ∧ W.cell? ⟨B, 1, none⟩ = some (.int .i64 m.len) ∧ W.cell? ⟨B, 2, none⟩ = some (.int .i64 m.cls) ∧ W.cell? ⟨B, 3, none⟩ = some (.int .i64 m.ep) :=
  ⟨h.cell 0, h.cell 1, h.cell 2, h.cell 3⟩
abbrev eN (b : Nat → Addr) : Value := .iface 124 (.pointer (some (b 0)))
abbrev eH (b : Nat → Addr) : Value := .iface 124 (.pointer (some (b 1)))
abbrev eA (b : Nat → Addr) : Value := .iface 124 (.pointer (some (b 2)))
theorem noHead_ok (m : MkR) (h : rightM m = true) (w : World) (hG : G a b w) : Calls Tryd.prog 31 #[mkV m] w fun e w' => e = .returned .nilIface ∧ Ext w w' := by
  have := noHead_is m w hG
  rw [h] at this
  exact this
theorem noHead_no (m : MkR) (h : rightM m = false) (w : World) (hG : G a b w) : Calls Tryd.prog 31 #[mkV m] w fun e w' => e = .returned (eH b) ∧ Ext w w' := by
  have := noHead_is m w hG
  rw [h] at this
  exact this
set_option maxHeartbeats 1000000 in
theorem right_is (m : MkR) (w : World) (hG : G a b w) :
    Calls Tryd.prog 15 #[mkV m] w fun e w' => e = .returned (.bool (rightM m)) ∧ Ext w w' := by
  have E1 := ext1 w (.cells (mkC m) 23)
  have HG := Lib.hid (fun W (hW : Ext w W) => hG.ext hW)
  have HE := Lib.hid E1
  rcases hr : rightM m with _ | _
  · have N := Lib.hid (fun W (hW : Ext w W) => noHead_no m hr W (hG.ext hW))
    have T := Lib.hid (fun bb t W (hW : Ext w W) (hB : Blk W bb #[eH b] t) => (tell1 (a := b) 2 (by decide) 60 rfl bb t W (hG.ext hW).e hB).mono fun e w' ⟨he, hw⟩ => (⟨he, hw ▸ hW⟩ : _ ∧ Ext w w'))
    clear hG hr E1
    go_enter Tryd.func15, Tryd.ntmps15
    go_wp2_with (first
      | (go_at_call 31; refine (N.out _ HE.out).mono ?_; rintro e w1 ⟨rfl, h1⟩; have hX := Ext.trans HE.out h1; clear h1)
      | (go_at_call 30; refine (T.out _ _ _ (Ext.trans hX (ext1 _ _)) (Blk.new _ _ _)).mono ?_; rintro e w3 ⟨rfl, h3⟩; replace hX := h3; clear h3))
    go_ret
    exact ⟨rfl, hX⟩
  · have N := Lib.hid (fun W (hW : Ext w W) => noHead_ok m hr W (hG.ext hW))
    have T := Lib.hid (fun bb t W (hW : Ext w W) (hB : Blk W bb #[.nilIface] t) => (tell1 (a := b) 0 (by decide) 0 rfl bb t W (hG.ext hW).e hB).mono fun e w' ⟨he, hw⟩ => (⟨he, hw ▸ hW⟩ : _ ∧ Ext w w'))
    clear hG hr E1
    go_enter Tryd.func15, Tryd.ntmps15
    go_wp2_with (first
      | (go_at_call 31; refine (N.out _ HE.out).mono ?_; rintro e w1 ⟨rfl, h1⟩; have hX := Ext.trans HE.out h1; clear h1)
      | (go_at_call 30; refine (T.out _ _ _ (Ext.trans hX (ext1 _ _)) (Blk.new _ _ _)).mono ?_; rintro e w3 ⟨rfl, h3⟩; replace hX := h3; clear h3))
    go_ret
    exact ⟨rfl, hX⟩
set_option maxHeartbeats 1000000 in
theorem encode_is (m : MkR) (w : World) (hG : G a b w) :
    Calls Tryd.prog 10 #[mkV m] w fun e w' => e = .returned (.tuple #[.string ⟨(encV m).toArray⟩, .int .i64 (encE m)]) ∧ Ext w w' := by
  have E1 := ext1 w (.cells (mkC m) 23)
  have b1 := Blk.new w (mkC m) 23
  have HG := Lib.hid (fun W (hW : Ext w W) => hG.ext hW)
  have HE := Lib.hid (And.intro E1 b1)
  rcases hr : rightM m with _ | _
  · have N := Lib.hid (fun W (hW : Ext w W) => noHead_no m hr W (hG.ext hW))
    have T := Lib.hid (fun bb t W (hW : Ext w W) (hB : Blk W bb #[eH b] t) => (tell1 (a := b) 2 (by decide) 60 rfl bb t W (hG.ext hW).e hB).mono fun e w' ⟨he, hw⟩ => (⟨he, hw ▸ hW⟩ : _ ∧ Ext w w'))
    rw [show encV m = [] by unfold encV; rw [hr]; rfl, show encE m = 60 by unfold encE; rw [hr]; rfl]
    clear hG hr E1 b1
    go_enter Tryd.func10, Tryd.ntmps10
    go_wp2_with (first
      | (go_at_call 31; refine (N.out _ HE.out.1).mono ?_; rintro e w1 ⟨rfl, h1⟩; have hX := Ext.trans HE.out.1 h1; clear h1)
      | (go_at_call 30; refine (T.out _ _ _ (Ext.trans hX (ext1 _ _)) (Blk.new _ _ _)).mono ?_; rintro e w3 ⟨rfl, h3⟩; replace hX := h3; clear h3))
    go_ret2
    exact ⟨rfl, hX⟩
  · have N := Lib.hid (fun W (hW : Ext w W) => noHead_ok m hr W (hG.ext hW))
    have T := Lib.hid (fun bb t W (hW : Ext w W) (hB : Blk W bb #[.nilIface] t) => tell1 (a := b) 0 (by decide) 0 rfl bb t W (hG.ext hW).e hB)
    have WR := Lib.hid (fun W (hW : Ext w W) => write_is m (fit_right hr) W (hG.ext hW).t)
    rw [show encV m = encS m by unfold encV; rw [hr]; rfl, show encE m = 0 by unfold encE; rw [hr]; rfl]
    clear hG hr E1 b1
    generalize encS m = X at *
    go_enter Tryd.func10, Tryd.ntmps10
    go_wp2_with (first
      | (go_at_call 31; refine (N.out _ HE.out.1).mono ?_; rintro e w1 ⟨rfl, h1⟩; have hY := h1; have hX := Ext.trans HE.out.1 h1; clear h1)
      | (go_at_call 30; refine (T.out _ _ _ (Ext.trans hX (ext1 _ _)) (Blk.new _ _ _)).mono ?_; rintro e w3 ⟨rfl, rfl⟩; replace hX := Ext.trans hX (ext1 w1 (.cells #[.nilIface] 57)); obtain ⟨p0, p1, p2, p3⟩ := cells_mk (HE.out.2.ext (Ext.trans hY (ext1 w1 (.cells #[.nilIface] 57)))))
      | (go_at_call 32; refine (WR.out _ hX).mono ?_; rintro e w4 ⟨rfl, h4⟩; replace hX := Ext.trans hX h4; clear h4))
    go_ret2
    exact ⟨rfl, hX⟩
theorem turn_is (x : Int) (w : World) : Calls Tryd.prog 17 #[.int .i64 x] w fun e w' => e = .returned (.int .i64 (turnV x)) ∧ w = w' := by
  by_cases h1 : x < 0
  · rw [show turnV x = 0 by unfold turnV; rw [if_neg (by omega)]]
    go_enter Tryd.func17, Tryd.ntmps17
    go_wp2
    go_ret
    exact ⟨rfl, rfl⟩
  · by_cases h2 : 255 ≤ x
    · rw [show turnV x = 0 by unfold turnV; rw [if_neg (by omega)]]
      go_enter Tryd.func17, Tryd.ntmps17
      go_wp2
      go_ret
      exact ⟨rfl, rfl⟩
    · rw [show turnV x = x + 1 by unfold turnV; rw [if_pos (by omega)]]
      go_enter Tryd.func17, Tryd.ntmps17
      go_wp2
      go_ret
      exact ⟨rfl, rfl⟩
end
end H
end Go.Proofs.YtfpefffgegphnaaDoor
