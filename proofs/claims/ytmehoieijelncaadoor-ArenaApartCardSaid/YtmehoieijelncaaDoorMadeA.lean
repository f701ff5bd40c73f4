/- selionlaw03.made: an arena behind some calls; shown. -/
import Derived.Test.YtmehoieijelncaaDoorCut
import Derived.Test.YtmehoieijelncaaDoorDo
namespace Go.Proofs.YtmehoieijelncaaDoor
open Go.RowKit Go
theorem OpsAt.chg {W W' : World} {A : Option Addr} {n g : Nat} {xs : List OpR} (h : OpsAt W A n xs) (k : Chg g W W') (hg : ∀ ad, A = some ad → ad.block ≠ g) : OpsAt W' A n xs :=
  ⟨h.1, h.2.1, fun hn => by
    obtain ⟨ad, e, hb, hc⟩ := h.2.2 hn
    exact ⟨ad, e, Nat.lt_of_lt_of_le hb k.size, fun i j hi hj => (k.cell (p := ad.add _) (by rw [block_of_add]; exact hb) (by rw [block_of_add]; exact hg ad e)).trans (hc i j hi hj)⟩⟩
/-- the five cells of the k-th call, as a walk spells them -/
theorem OpsAt.at_ {W : World} {ad : Addr} {n : Nat} {xs : List OpR} (h : OpsAt W (some ad) n xs) (k : Nat) (hk : k < n) (x : OpR) (hx : xs[k]? = some x) :
    W.cell? (ad.add (k * 5)) = some (.int .i64 x.kind) ∧ W.cell? ⟨(ad.add (k * 5)).block, (ad.add (k * 5)).off + 1, none⟩ = some (.int .i64 x.at_) ∧ W.cell? ⟨(ad.add (k * 5)).block, (ad.add (k * 5)).off + 2, none⟩ = some (.int .i64 x.n) ∧
    W.cell? ⟨(ad.add (k * 5)).block, (ad.add (k * 5)).off + 3, none⟩ = some (.int .u32 (x.v : Nat)) ∧ W.cell? ⟨(ad.add (k * 5)).block, (ad.add (k * 5)).off + 4, none⟩ = some (.string ⟨x.s.toArray⟩) := by
  obtain ⟨ad', e, hb, hc⟩ := h.2.2 (by omega)
  cases e
  have hxd : xs.getD k default = x := by rw [List.getD, hx]; rfl
  have e0 := hc k 0 (by omega) (by omega)
  have e1 := hc k 1 (by omega) (by omega)
  have e2 := hc k 2 (by omega) (by omega)
  have e3 := hc k 3 (by omega) (by omega)
  have e4 := hc k 4 (by omega) (by omega)
  rw [hxd] at e0 e1 e2 e3 e4
  rw [← add_of_add ad (k * 5)] at e1 e2 e3 e4
  rw [Nat.add_zero] at e0
  simp only [OpR.cells, List.getElem?_toArray, List.getElem?_cons_zero, List.getElem?_cons_succ] at e0 e1 e2 e3 e4
  rw [add_pos _ 1 (by decide)] at e1
  rw [add_pos _ 2 (by decide)] at e2
  rw [add_pos _ 3 (by decide)] at e3
  rw [add_pos _ 4 (by decide)] at e4
  exact ⟨e0, e1, e2, e3, e4⟩
/-- the bytes behind the calls ys, of an arena of n blocks -/
def behind (n : Nat) (ys : List OpR) : List UInt8 := ys.foldl doL (List.replicate (4096 * n) 0)
theorem behind_len (n : Nat) (ys : List OpR) : (behind n ys).length = 4096 * n := by
  suffices h : ∀ L : List UInt8, (ys.foldl doL L).length = L.length by rw [behind, h, List.length_replicate]
  induction ys with
  | nil => intro L; rfl
  | cons y r ih => intro L; rw [List.foldl_cons, ih, doL_len]
section
variable {a : Nat → Addr}
def MadeP (w : World) (L : List UInt8) (e : Ending) (w' : World) : Prop := ∃ p g, e = .returned (.tuple #[ptr p, .bool true]) ∧ w.heap.size ≤ p ∧ w.heap.size ≤ g ∧ Ext w w' ∧ Ar w' p g L
theorem made_no (x : Int) (h : ¬ (1 ≤ x ∧ x ≤ 32)) (hx : -9223372036854775808 ≤ x ∧ x ≤ 9223372036854775807) (l : Value) (w : World) (hG : G a w) :
    Calls Tryd.prog 21 #[.int .i64 x, l] w fun e w' => e = .returned (.tuple #[.pointer none, .bool false]) ∧ Ext w w' := by
  have N := Lib.hid (new_no x h hx w hG)
  clear hG
  go_enter Tryd.func21, Tryd.ntmps21
  go_wp2_with (first | (go_at_call 12; refine N.out.mono ?_; rintro e w1 ⟨rfl, hX⟩))
  go_ret2
  exact ⟨rfl, hX⟩
set_option maxHeartbeats 4000000 in
set_option maxRecDepth 100000 in
theorem made_ok (b : Nat) (h1 : 1 ≤ b) (h2 : b ≤ 32) (A : Option Addr) (n c m : Nat) (xs ys : List OpR) (hm : min n 20 = m) (hys : (xs.take 20).map cutR = ys) (w : World) (hG : G a w) (hO : OpsAt w A n xs) :
    Calls Tryd.prog 21 #[.int .i64 (b : Nat), .slice A n c] w (MadeP w (behind b ys)) := by
  have N := Lib.hid (new_ok b h1 h2 w hG)
  have C := Lib.hid (fun W (hW : Ext w W) => cut_any' A n c xs m ys hm hys W (hO.ext hW))
  have HG := Lib.hid hG
  have M20 := Lib.hid (show m ≤ 20 by omega)
  clear hG hO hm hys
  go_enter Tryd.func21, Tryd.ntmps21
  go_wp2_with (first
    | (go_at_call 12; refine N.out.mono ?_; rintro e w1 ⟨p, g, rfl, hp, hg, hX, hA⟩; have HA := Lib.hid (And.intro hA (And.intro hX (And.intro hp hg))); clear hp hg hA)
    | (go_at_call 11; refine (C.out _ HA.out.2.1).mono ?_; rintro e w2 ⟨A', c', rfl, hY, hops, hbk⟩; have HB := Lib.hid (And.intro hY (And.intro hops hbk)); clear hY hops hbk))
  go_loopg [8] m (fun d i wr => ∃ k : Nat, k + d = m ∧ i = .int .i64 k ∧ Chg g w2 wr ∧ Ar wr p g ((ys.take k).foldl doL (List.replicate (4096 * b) 0)))
  case atStart => exact ⟨0, by omega, rfl, Chg.refl _ _, HA.out.1.ext HB.out.1⟩
  case round =>
    obtain ⟨k, hk, rfl, hC, hA⟩ := hrel
    have hgl := HA.out.1.b.lt
    have hops := HB.out.2.1.chg hC (fun ad h => by have := HB.out.2.2 ad h; omega)
    by_cases hlt : k < m
    · obtain ⟨ad, rfl, hb, _⟩ := hops.2.2 (by omega)
      obtain ⟨x, hx, hxv⟩ := hops.get hlt
      obtain ⟨e0, e1, e2, e3, e4⟩ := hops.at_ k hlt x hx
      have hi : (k : Int) < m := by omega
      have hi2 : (k : Int) + 1 ≤ 20 := by have := M20.out; omega
      have D := Lib.hid (do_any (a := a) p g _ x hxv wr (HG.out.ext (show Ext w wr from Chg.below (Ext.trans hX HB.out.1) hC (by have := HA.out.2.1.size; have := HB.out.1.size; omega) HA.out.2.2.2)) hA)
      have HH := Lib.hid (And.intro hC (And.intro hx hk))
      clear hC hA hops hlt hx hk
      go_wp2_with (first | (go_at_call 16; refine D.out.mono ?_; rintro e w3 ⟨rfl, hc3, hA3⟩; have H3 := Lib.hid (And.intro hc3 hA3); clear hc3 hA3))
      go_roundg (gk - 1)
      case measure => have := HH.out.2.2; omega
      case rel =>
        refine ⟨k + 1, by have := HH.out.2.2; omega, by go_num, HH.out.1.trans H3.out.1, ?_⟩
        rw [List.take_add_one, HH.out.2.1]
        simp only [Option.toList_some, List.foldl_append, List.foldl_cons, List.foldl_nil]
        exact H3.out.2
    · obtain rfl : k = m := by omega
      have hyl : ys.length = k := HB.out.2.1.1
      rw [List.take_of_length_le (by omega)] at hA
      have hi : ¬ (k : Int) < k := by omega
      have HZ := Lib.hid (And.intro hC hA)
      clear hC hA hops hyl hlt hk
      go_wp2
      go_ret2
      exact ⟨p, g, rfl, HA.out.2.2.1, HA.out.2.2.2, Chg.below (Ext.trans hX HB.out.1) HZ.out.1 (by have := HA.out.2.1.size; have := HB.out.1.size; omega) HA.out.2.2.2, HZ.out.2⟩
/-- what shown writes -/
def sh1 : List UInt8 := lay (List.replicate (4096 * 2) 0) 8 (wb 258)
theorem sh_wb : wb 258 = [2, 1, 0, 0] := by decide
theorem sh1_len : sh1.length = 8192 := by
  unfold sh1
  rw [lay_len _ _ _ (by rw [List.length_replicate, sh_wb]; decide), List.length_replicate]
theorem sh1_8 : (sh1.getD 8 0).toNat = 2 := by
  unfold sh1
  rw [lay_get _ _ _ (by rw [List.length_replicate, sh_wb]; decide), sh_wb]
  rfl
theorem sh1_9 : (sh1.getD 9 0).toNat = 1 := by
  unfold sh1
  rw [lay_get _ _ _ (by rw [List.length_replicate, sh_wb]; decide), sh_wb]
  rfl
theorem nz_zero (n : Nat) : nz (List.replicate n 0) = 0 := by simp [nz]
theorem nz_lay_rep (n off : Nat) (S : List UInt8) : nz (lay (List.replicate n 0) off S) = nz S := by
  unfold lay splice nz
  rw [List.take_replicate, List.drop_replicate, List.countP_append, List.countP_append, show ∀ m, List.countP (fun b : UInt8 => b != 0) (List.replicate m 0) = 0 from nz_zero, show ∀ m, List.countP (fun b : UInt8 => b != 0) (List.replicate m 0) = 0 from nz_zero]
  simp
theorem sh1_nz : nz sh1 = 2 := by
  unfold sh1
  rw [nz_lay_rep, sh_wb]
  decide
section
variable {a : Nat → Addr}
theorem s_new (w : World) (hG : G a w) : Calls Tryd.prog 12 #[.int .i64 2] w (NewR w 2) := new_ok (a := a) 2 (by decide) (by decide) w hG
theorem s_store (p g : Nat) (w : World) (hG : G a w) (hA : Ar w p g (List.replicate (4096 * 2) 0)) : Calls Tryd.prog 23 #[ptr p, .int .i64 8, .int .u32 258] w (Does g p w (.int .i64 0) sh1) :=
  store_ok (a := a) p g _ 8 258 (by decide) (by rw [List.length_replicate]; decide) (by decide) w hG hA
theorem s_byte (p g : Nat) (w : World) (hG : G a w) (hA : Ar w p g sh1) : Calls Tryd.prog 25 #[ptr p, .int .i64 8] w fun e w' => e = .returned (.tuple #[.int .i64 2, .int .i64 0]) ∧ Ext w w' := by
  have := byte_ok (a := a) p g _ 8 (by rw [sh1_len]; decide) w hG hA
  rw [show ((8 : Int).toNat) = 8 from rfl, sh1_8] at this
  exact this
theorem s_byte2 (p g : Nat) (w : World) (hG : G a w) (hA : Ar w p g sh1) : Calls Tryd.prog 25 #[ptr p, .int .i64 9] w fun e w' => e = .returned (.tuple #[.int .i64 1, .int .i64 0]) ∧ Ext w w' := by
  have := byte_ok (a := a) p g _ 9 (by rw [sh1_len]; decide) w hG hA
  rw [show ((9 : Int).toNat) = 9 from rfl, sh1_9] at this
  exact this
theorem s_load (p g : Nat) (w : World) (hG : G a w) (hA : Ar w p g sh1) : Calls Tryd.prog 24 #[ptr p, .int .i64 8190] w fun e w' => e = .returned (.tuple #[.int .u32 0, .int .i64 10]) ∧ Ext w w' :=
  load_no2 (a := a) p g _ 8190 (by rw [sh1_len]; decide) (by decide) w hG hA
theorem s_put (p g : Nat) (w : World) (hG : G a w) (hA : Ar w p g sh1) : Calls Tryd.prog 26 #[ptr p, .int .i64 0, .int .i64 256] w fun e w' => e = .returned (.int .i64 2) ∧ Ext w w' :=
  put_arg (a := a) p g _ 0 256 (by rw [sh1_len]; decide) (by decide) w hG hA
theorem s_size (p g : Nat) (w : World) (hG : G a w) (hA : Ar w p g sh1) : Calls Tryd.prog 14 #[ptr p] w fun e w' => e = .returned (.int .i64 8192) ∧ Ext w w' := by
  have := size_any (a := a) p g _ w hG hA
  rw [sh1_len] at this
  exact this
theorem s_count (p g : Nat) (w : World) (hG : G a w) (hA : Ar w p g sh1) : Calls Tryd.prog 19 #[ptr p] w fun e w' => e = .returned (.int .i64 2) ∧ Ext w w' := by
  have := count_any (a := a) p g _ w hG hA
  rw [sh1_nz] at this
  exact this
set_option maxHeartbeats 4000000 in
set_option maxRecDepth 100000 in
theorem shown_any (w : World) (hG : G a w) : Calls Tryd.prog 10 #[] w fun e w' => e = .returned (.bool true) ∧ Ext w w' := by
  have H := Lib.hid (fun W (hW : Ext w W) => hG.ext hW)
  clear hG
  go_enter Tryd.func10, Tryd.ntmps10
  go_wp2_with (first
    | (go_at_call 12; refine (s_new (a := a) _ (H.out _ (Ext.refl _))).mono ?_; rintro e w1 ⟨p, g, rfl, hp, hg, hX, hA⟩; have HP := Lib.hid (And.intro hp hg); have AR := Lib.hid hA; clear hp hg hA)
    | (go_at_call 23; refine (s_store (a := a) p g _ (H.out _ hX) AR.out).mono ?_; rintro e w2 ⟨rfl, hc, hA⟩; replace hX := Chg.below hX hc hX.size HP.out.2; replace AR := Lib.hid hA; clear hc hA)
    | (go_at_call 25; (with_reducible refine (s_byte (a := a) p g _ (H.out _ hX) AR.out).mono ?_); rintro e w3 ⟨rfl, h3⟩; replace hX := Ext.trans hX h3; replace AR := Lib.hid (AR.out.ext h3); clear h3)
    | (go_at_call 25; (with_reducible refine (s_byte2 (a := a) p g _ (H.out _ hX) AR.out).mono ?_); rintro e w3 ⟨rfl, h3⟩; replace hX := Ext.trans hX h3; replace AR := Lib.hid (AR.out.ext h3); clear h3)
    | (go_at_call 24; refine (s_load (a := a) p g _ (H.out _ hX) AR.out).mono ?_; rintro e w3 ⟨rfl, h3⟩; replace hX := Ext.trans hX h3; replace AR := Lib.hid (AR.out.ext h3); clear h3)
    | (go_at_call 26; refine (s_put (a := a) p g _ (H.out _ hX) AR.out).mono ?_; rintro e w3 ⟨rfl, h3⟩; replace hX := Ext.trans hX h3; replace AR := Lib.hid (AR.out.ext h3); clear h3)
    | (go_at_call 14; refine (s_size (a := a) p g _ (H.out _ hX) AR.out).mono ?_; rintro e w3 ⟨rfl, h3⟩; replace hX := Ext.trans hX h3; replace AR := Lib.hid (AR.out.ext h3); clear h3)
    | (go_at_call 19; refine (s_count (a := a) p g _ (H.out _ hX) AR.out).mono ?_; rintro e w3 ⟨rfl, h3⟩; replace hX := Ext.trans hX h3; replace AR := Lib.hid (AR.out.ext h3); clear h3))
  go_ret
  exact ⟨rfl, hX⟩
end
end
end Go.Proofs.YtmehoieijelncaaDoor
