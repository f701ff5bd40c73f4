/- selionlaw06: cut, shown. -/
import Derived.Test.YtfpefffgegphnaaDoorGetH
namespace Go.Proofs.YtfpefffgegphnaaDoor
open Go.RowKit Go
namespace H
open HD
abbrev mS : MkR := ⟨2, 300, 1, 7⟩
abbrev tS : List UInt8 := [181, 2, 1, 7, 44, 1, 0, 156]
theorem enc_S : encS mS = tS := by decide
theorem right_S : rightM mS = true := by decide
theorem dec_S : decM tS = mS ∧ decE tS = 0 := by rw [← enc_S]; exact dec_enc right_S
theorem dec_W : decM [181, 2, 1, 7, 44, 1, 0, 157] = zM ∧ decE [181, 2, 1, 7, 44, 1, 0, 157] = 60 := by decide
theorem cells_S {W : World} {B : Nat} {t : TypeId} (h : Blk W B (mkC mS) t) : W.cell? ⟨B, 0, none⟩ = some (.int .i64 2) ∧ W.cell? ⟨B, 1, none⟩ = some (.int .i64 300) ∧ W.cell? ⟨B, 2, none⟩ = some (.int .i64 1) ∧ W.cell? ⟨B, 3, none⟩ = some (.int .i64 7) :=
  ⟨h.cell 0, h.cell 1, h.cell 2, h.cell 3⟩
section
variable {a b : Nat → Addr}
set_option maxHeartbeats 4000000 in
theorem shown_is (w : World) (hG : G a b w) : Calls Tryd.prog 9 #[] w fun e w' => e = .returned (.bool true) ∧ Ext w w' := by
  have C1 := Lib.hid (show Calls Tryd.prog 10 #[.agg #[.int .i64 2, .int .i64 300, .int .i64 1, .int .i64 7]] w fun e w' => e = .returned (.tuple #[.string ⟨#[181, 2, 1, 7, 44, 1, 0, 156]⟩, .int .i64 0]) ∧ Ext w w' from by
    have h := encode_is mS w hG
    rw [show encV mS = tS by unfold encV; rw [right_S]; exact enc_S, show encE mS = 0 by unfold encE; rw [right_S]; rfl] at h
    exact h)
  have C2 := Lib.hid (fun W (hW : Ext w W) => (show Calls Tryd.prog 12 #[.string ⟨#[181, 2, 1, 7, 44, 1, 0, 156]⟩] W fun e w' => e = .returned (.tuple #[.agg #[.int .i64 2, .int .i64 300, .int .i64 1, .int .i64 7], .int .i64 0]) ∧ Ext W w' from by
    have h := decode_is tS W (hG.ext hW)
    rw [dec_S.1, dec_S.2] at h
    exact h))
  have C3 := Lib.hid (fun W (hW : Ext w W) => (show Calls Tryd.prog 12 #[.string ⟨#[181, 2, 1, 7, 44, 1, 0, 157]⟩] W fun e w' => e = .returned (.tuple #[.agg #[.int .i64 0, .int .i64 0, .int .i64 0, .int .i64 0], .int .i64 60]) ∧ Ext W w' from by
    have h := decode_is [181, 2, 1, 7, 44, 1, 0, 157] W (hG.ext hW)
    rw [dec_W.1, dec_W.2] at h
    exact h))
  have C4 := Lib.hid (fun W => (show Calls Tryd.prog 17 #[.int .i64 255] W fun e w' => e = .returned (.int .i64 0) ∧ W = w' from turn_is 255 W))
  have C5 := Lib.hid (fun W (hW : Ext w W) => (show Calls Tryd.prog 22 #[.pointer none, .int .i64 0, .agg #[.int .i64 2, .int .i64 300, .int .i64 1, .int .i64 7]] W fun e w' => e = .returned (.int .i64 1) ∧ Ext W w' from put_nil mS 0 W (hG.ext hW)))
  clear hG
  go_enter Tryd.func9, Tryd.ntmps9
  go_wp2_with (first
    | (go_at_call 10; refine C1.out.mono ?_; rintro e w1 ⟨rfl, h1⟩; clear C1)
    | (go_at_call 12; refine (C2.out _ h1).mono ?_; rintro e w2 ⟨rfl, h2⟩; have hX := Ext.trans (Ext.trans h1 h2) (ext1 w2 (.cells #[.int .i64 2, .int .i64 300, .int .i64 1, .int .i64 7] 23)); have B2 := Lib.hid (Blk.new w2 (mkC mS) 23); clear C2 h2)
    | (go_at_call 12; refine (C3.out _ hX).mono ?_; rintro e w3 ⟨rfl, h3⟩; have hY := Ext.trans (Ext.trans hX h3) (ext1 w3 (.cells #[.int .i64 0, .int .i64 0, .int .i64 0, .int .i64 0] 23)); obtain ⟨p0, p1, p2, p3⟩ := cells_S (B2.out.ext (Ext.trans h3 (ext1 w3 (.cells #[.int .i64 0, .int .i64 0, .int .i64 0, .int .i64 0] 23)))); clear C3 h3)
    | (go_at_call 17; refine (C4.out _).mono ?_; rintro e w4 ⟨rfl, rfl⟩)
    | (go_at_call 22; refine (C5.out _ hY).mono ?_; rintro e w5 ⟨rfl, h5⟩))
  go_ret
  exact ⟨rfl, Ext.trans hY h5⟩
theorem cut20 (l : List UInt8) : (⟨l.toArray⟩ : ByteArray).extract 0 (min (⟨l.toArray⟩ : ByteArray).size 20) = ⟨(l.take 20).toArray⟩ := by
  apply ByteArray.ext
  rw [ByteArray.data_extract]
  apply Array.toList_inj.1
  have e : (⟨l.toArray⟩ : ByteArray).size = l.length := by show l.toArray.size = _; simp
  rw [e]
  simp
  omega
theorem cut_any (X : ByteArray) (w : World) :
    Calls Tryd.prog 13 #[.string X] w fun e w' => e = .returned (.string (X.extract 0 (min X.size 20))) ∧ w = w' := by
  by_cases h : X.size ≤ 20
  · have h1 : (X.size : Int) ≤ 20 := by omega
    rw [Nat.min_eq_left h]
    go_enter Tryd.func13, Tryd.ntmps13
    go_wp2
    all_goals
      go_ret
      first | exact ⟨rfl, rfl⟩ | exact ⟨by simp, rfl⟩
  · have h1 : ¬ (X.size : Int) ≤ 20 := by omega
    have h2 : (20 : Int) ≤ X.size := by omega
    rw [Nat.min_eq_right (by omega)]
    go_enter Tryd.func13, Tryd.ntmps13
    go_wp2
    all_goals
      go_ret
      first | exact ⟨rfl, rfl⟩ | exact ⟨by simp, rfl⟩
theorem cut_is (l : List UInt8) (w : World) :
    Calls Tryd.prog 13 #[.string ⟨l.toArray⟩] w fun e w' => e = .returned (.string ⟨(l.take 20).toArray⟩) ∧ w = w' := by
  have h := cut_any ⟨l.toArray⟩ w
  rw [cut20] at h
  exact h
end
end H
end Go.Proofs.YtfpefffgegphnaaDoor
