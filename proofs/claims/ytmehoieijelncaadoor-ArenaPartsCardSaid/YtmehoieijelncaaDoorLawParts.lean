/- selionlaw03.ArenaParts: the walk (made by gen_laws.py). -/
import Derived.Test.YtmehoieijelncaaDoorLaw
namespace Go.Proofs.YtmehoieijelncaaDoor
open Go.RowKit Go
section
variable {a : Nat → Addr}
theorem cut_cut (L : List UInt8) (x y z : Nat) : cut L x y ++ cut L (x + y) z = cut L x (y + z) := by
  unfold cut
  rw [← List.drop_drop, List.take_add]
set_option maxHeartbeats 4000000 in
set_option maxRecDepth 100000 in
theorem parts_none (b : Int) (A : Option Addr) (n c : Nat) (x y z : Int) (w : World) (hG : G a w) (hM : ∀ W, Ext w W → Calls Tryd.prog 21 #[.int .i64 b, .slice A n c] W (fun e w' => e = .returned (.tuple #[.pointer none, .bool false]) ∧ Ext W w')) :
    Calls Tryd.prog 8 #[.int .i64 b, .slice A n c, .int .i64 x, .int .i64 y, .int .i64 z] w fun e w' => e = .returned (.bool true) ∧ Ext w w' := by
  have SH := Lib.hid (shown_any (a := a) w hG)
  have H := Lib.hid (fun W (hW : Ext w W) => hG.ext hW)
  have M := Lib.hid hM
  clear hG hM
  go_enter Tryd.func8, Tryd.ntmps8
  go_wp2_with (first
    | (go_at_call 10; refine (SH.out).mono ?_; rintro e w1 ⟨rfl, hX⟩)
    | (go_at_call 21; refine (M.out _ hX).mono ?_; rintro e w2 ⟨rfl, h2⟩; replace hX := Ext.trans hX h2; clear h2))
  go_ret
  exact ⟨rfl, hX⟩
set_option maxHeartbeats 4000000 in
set_option maxRecDepth 100000 in
theorem parts_e0 (L : List UInt8) (b : Int) (A : Option Addr) (n c : Nat) (x y z : Int)  (e0 : y < 0) (w : World) (hG : G a w) (hM : ∀ W, Ext w W → Calls Tryd.prog 21 #[.int .i64 b, .slice A n c] W (MadeP W L)) :
    Calls Tryd.prog 8 #[.int .i64 b, .slice A n c, .int .i64 x, .int .i64 y, .int .i64 z] w fun e w' => e = .returned (.bool true) ∧ Ext w w' := by
  have SH := Lib.hid (shown_any (a := a) w hG)
  have H := Lib.hid (fun W (hW : Ext w W) => hG.ext hW)
  have M := Lib.hid hM
  clear hG hM
  go_enter Tryd.func8, Tryd.ntmps8
  go_wp2_with (first
    | (go_at_call 10; refine (SH.out).mono ?_; rintro e w1 ⟨rfl, hX⟩)
    | (go_at_call 21; refine (M.out _ hX).mono ?_; rintro e w2 ⟨p, g, rfl, hp, hg, h2, hA⟩; have HP := Lib.hid (And.intro (Nat.le_trans hX.size hp) (Nat.le_trans hX.size hg)); replace hX := Ext.trans hX h2; have AR := Lib.hid hA; clear h2 hp hg hA))
  go_ret
  exact ⟨rfl, hX⟩
set_option maxHeartbeats 4000000 in
set_option maxRecDepth 100000 in
theorem parts_e1 (L : List UInt8) (b : Int) (A : Option Addr) (n c : Nat) (x y z : Int) (e0 : ¬ (y < 0)) (e1 : z < 0) (w : World) (hG : G a w) (hM : ∀ W, Ext w W → Calls Tryd.prog 21 #[.int .i64 b, .slice A n c] W (MadeP W L)) :
    Calls Tryd.prog 8 #[.int .i64 b, .slice A n c, .int .i64 x, .int .i64 y, .int .i64 z] w fun e w' => e = .returned (.bool true) ∧ Ext w w' := by
  have SH := Lib.hid (shown_any (a := a) w hG)
  have H := Lib.hid (fun W (hW : Ext w W) => hG.ext hW)
  have M := Lib.hid hM
  simp only [Int.not_lt] at *
  clear hG hM
  go_enter Tryd.func8, Tryd.ntmps8
  go_wp2_with (first
    | (go_at_call 10; refine (SH.out).mono ?_; rintro e w1 ⟨rfl, hX⟩)
    | (go_at_call 21; refine (M.out _ hX).mono ?_; rintro e w2 ⟨p, g, rfl, hp, hg, h2, hA⟩; have HP := Lib.hid (And.intro (Nat.le_trans hX.size hp) (Nat.le_trans hX.size hg)); replace hX := Ext.trans hX h2; have AR := Lib.hid hA; clear h2 hp hg hA))
  go_ret
  exact ⟨rfl, hX⟩
set_option maxHeartbeats 4000000 in
set_option maxRecDepth 100000 in
theorem parts_e2 (L : List UInt8) (b : Int) (A : Option Addr) (n c : Nat) (x y z : Int) (e0 : ¬ (y < 0)) (e1 : ¬ (z < 0)) (e2 : 200000 < y) (w : World) (hG : G a w) (hM : ∀ W, Ext w W → Calls Tryd.prog 21 #[.int .i64 b, .slice A n c] W (MadeP W L)) :
    Calls Tryd.prog 8 #[.int .i64 b, .slice A n c, .int .i64 x, .int .i64 y, .int .i64 z] w fun e w' => e = .returned (.bool true) ∧ Ext w w' := by
  have SH := Lib.hid (shown_any (a := a) w hG)
  have H := Lib.hid (fun W (hW : Ext w W) => hG.ext hW)
  have M := Lib.hid hM
  simp only [Int.not_lt] at *
  clear hG hM
  go_enter Tryd.func8, Tryd.ntmps8
  go_wp2_with (first
    | (go_at_call 10; refine (SH.out).mono ?_; rintro e w1 ⟨rfl, hX⟩)
    | (go_at_call 21; refine (M.out _ hX).mono ?_; rintro e w2 ⟨p, g, rfl, hp, hg, h2, hA⟩; have HP := Lib.hid (And.intro (Nat.le_trans hX.size hp) (Nat.le_trans hX.size hg)); replace hX := Ext.trans hX h2; have AR := Lib.hid hA; clear h2 hp hg hA))
  go_ret
  exact ⟨rfl, hX⟩
set_option maxHeartbeats 4000000 in
set_option maxRecDepth 100000 in
theorem parts_e3 (L : List UInt8) (b : Int) (A : Option Addr) (n c : Nat) (x y z : Int) (e0 : ¬ (y < 0)) (e1 : ¬ (z < 0)) (e2 : ¬ (200000 < y)) (e3 : 200000 < z) (w : World) (hG : G a w) (hM : ∀ W, Ext w W → Calls Tryd.prog 21 #[.int .i64 b, .slice A n c] W (MadeP W L)) :
    Calls Tryd.prog 8 #[.int .i64 b, .slice A n c, .int .i64 x, .int .i64 y, .int .i64 z] w fun e w' => e = .returned (.bool true) ∧ Ext w w' := by
  have SH := Lib.hid (shown_any (a := a) w hG)
  have H := Lib.hid (fun W (hW : Ext w W) => hG.ext hW)
  have M := Lib.hid hM
  simp only [Int.not_lt] at *
  clear hG hM
  go_enter Tryd.func8, Tryd.ntmps8
  go_wp2_with (first
    | (go_at_call 10; refine (SH.out).mono ?_; rintro e w1 ⟨rfl, hX⟩)
    | (go_at_call 21; refine (M.out _ hX).mono ?_; rintro e w2 ⟨p, g, rfl, hp, hg, h2, hA⟩; have HP := Lib.hid (And.intro (Nat.le_trans hX.size hp) (Nat.le_trans hX.size hg)); replace hX := Ext.trans hX h2; have AR := Lib.hid hA; clear h2 hp hg hA))
  go_ret
  exact ⟨rfl, hX⟩
set_option maxHeartbeats 4000000 in
set_option maxRecDepth 100000 in
theorem parts_e4 (L : List UInt8) (b : Int) (A : Option Addr) (n c : Nat) (x y z : Int) (e0 : ¬ (y < 0)) (e1 : ¬ (z < 0)) (e2 : ¬ (200000 < y)) (e3 : ¬ (200000 < z)) (e4 : x < 0) (w : World) (hG : G a w) (hM : ∀ W, Ext w W → Calls Tryd.prog 21 #[.int .i64 b, .slice A n c] W (MadeP W L)) :
    Calls Tryd.prog 8 #[.int .i64 b, .slice A n c, .int .i64 x, .int .i64 y, .int .i64 z] w fun e w' => e = .returned (.bool true) ∧ Ext w w' := by
  have SH := Lib.hid (shown_any (a := a) w hG)
  have H := Lib.hid (fun W (hW : Ext w W) => hG.ext hW)
  have M := Lib.hid hM
  simp only [Int.not_lt] at *
  clear hG hM
  go_enter Tryd.func8, Tryd.ntmps8
  go_wp2_with (first
    | (go_at_call 10; refine (SH.out).mono ?_; rintro e w1 ⟨rfl, hX⟩)
    | (go_at_call 21; refine (M.out _ hX).mono ?_; rintro e w2 ⟨p, g, rfl, hp, hg, h2, hA⟩; have HP := Lib.hid (And.intro (Nat.le_trans hX.size hp) (Nat.le_trans hX.size hg)); replace hX := Ext.trans hX h2; have AR := Lib.hid hA; clear h2 hp hg hA))
  go_ret
  exact ⟨rfl, hX⟩
set_option maxHeartbeats 4000000 in
set_option maxRecDepth 100000 in
theorem parts_e5 (L : List UInt8) (b : Int) (A : Option Addr) (n c : Nat) (x y z : Int) (e0 : ¬ (y < 0)) (e1 : ¬ (z < 0)) (e2 : ¬ (200000 < y)) (e3 : ¬ (200000 < z)) (e4 : ¬ (x < 0)) (e5 : 200000 < x) (w : World) (hG : G a w) (hM : ∀ W, Ext w W → Calls Tryd.prog 21 #[.int .i64 b, .slice A n c] W (MadeP W L)) :
    Calls Tryd.prog 8 #[.int .i64 b, .slice A n c, .int .i64 x, .int .i64 y, .int .i64 z] w fun e w' => e = .returned (.bool true) ∧ Ext w w' := by
  have SH := Lib.hid (shown_any (a := a) w hG)
  have H := Lib.hid (fun W (hW : Ext w W) => hG.ext hW)
  have M := Lib.hid hM
  simp only [Int.not_lt] at *
  clear hG hM
  go_enter Tryd.func8, Tryd.ntmps8
  go_wp2_with (first
    | (go_at_call 10; refine (SH.out).mono ?_; rintro e w1 ⟨rfl, hX⟩)
    | (go_at_call 21; refine (M.out _ hX).mono ?_; rintro e w2 ⟨p, g, rfl, hp, hg, h2, hA⟩; have HP := Lib.hid (And.intro (Nat.le_trans hX.size hp) (Nat.le_trans hX.size hg)); replace hX := Ext.trans hX h2; have AR := Lib.hid hA; clear h2 hp hg hA))
  go_ret
  exact ⟨rfl, hX⟩
set_option maxHeartbeats 4000000 in
set_option maxRecDepth 100000 in
theorem parts_ok (L : List UInt8) (b : Int) (A : Option Addr) (n c : Nat) (x y z : Int) (y0 : 0 ≤ y) (z0 : 0 ≤ z) (y1 : y ≤ 200000) (z1 : z ≤ 200000) (x0 : 0 ≤ x) (x1 : x ≤ 200000) (hL : L.length ≤ 131072) (h : x + (y + z) ≤ L.length) (w : World) (hG : G a w) (hM : ∀ W, Ext w W → Calls Tryd.prog 21 #[.int .i64 b, .slice A n c] W (MadeP W L)) :
    Calls Tryd.prog 8 #[.int .i64 b, .slice A n c, .int .i64 x, .int .i64 y, .int .i64 z] w fun e w' => e = .returned (.bool true) ∧ Ext w w' := by
  have SH := Lib.hid (shown_any (a := a) w hG)
  have H := Lib.hid (fun W (hW : Ext w W) => hG.ext hW)
  have M := Lib.hid hM
  have a1 : okA L x (y + z) := ⟨x0, by omega, h⟩
  have a2 : okA L x y := ⟨x0, y0, by omega⟩
  have a3 : okA L (x + y) z := ⟨by omega, z0, by omega⟩
  obtain ⟨S1, hS1⟩ : ∃ S, rdS L (x) (y + z) = S := ⟨_, rfl⟩
  obtain ⟨E1, hE1⟩ : ∃ E, rdE L (x) (y + z) = E := ⟨_, rfl⟩
  obtain ⟨S2, hS2⟩ : ∃ S, rdS L (x) (y) = S := ⟨_, rfl⟩
  obtain ⟨E2, hE2⟩ : ∃ E, rdE L (x) (y) = E := ⟨_, rfl⟩
  obtain ⟨S3, hS3⟩ : ∃ S, rdS L (x + y) (z) = S := ⟨_, rfl⟩
  obtain ⟨E3, hE3⟩ : ∃ E, rdE L (x + y) (z) = E := ⟨_, rfl⟩
  have K := Lib.hid (And.intro hS1 (And.intro hE1 (And.intro hS2 (And.intro hE2 (And.intro hS3 hE3)))))
  have hc : S2 ++ S3 = S1 := by rw [← hS1, ← hS2, ← hS3, (rd_ok a1).1, (rd_ok a2).1, (rd_ok a3).1, show (x + y).toNat = x.toNat + y.toNat by omega, show (y + z).toNat = y.toNat + z.toNat by omega, cut_cut]
  have hl1 : S1.length = (y + z).toNat := by rw [← hS1, (rd_ok a1).1]; exact cut_len _ _ _ (by omega)
  have hl : (S1.length : Int) = y + z := by omega
  obtain rfl : E1 = 0 := hE1.symm.trans (rd_ok a1).2
  obtain rfl : E2 = 0 := hE2.symm.trans (rd_ok a2).2
  obtain rfl : E3 = 0 := hE3.symm.trans (rd_ok a3).2
  have hj : (⟨S2.toArray⟩ ++ ⟨S3.toArray⟩ : ByteArray) = ⟨S1.toArray⟩ := by rw [str_app, hc]
  have hl2 : (S2.length : Int) + S3.length ≤ 400000 := by have := congrArg List.length hc; rw [List.length_append] at this; omega
  clear a1 a2 a3 hS1 hS2 hS3 hE1 hE2 hE3 hc hl1
  clear hG hM
  go_enter Tryd.func8, Tryd.ntmps8
  go_wp2_with (first
    | (go_at_call 10; refine (SH.out).mono ?_; rintro e w1 ⟨rfl, hX⟩)
    | (go_at_call 21; refine (M.out _ hX).mono ?_; rintro e w2 ⟨p, g, rfl, hp, hg, h2, hA⟩; have HP := Lib.hid (And.intro (Nat.le_trans hX.size hp) (Nat.le_trans hX.size hg)); replace hX := Ext.trans hX h2; have AR := Lib.hid hA; clear h2 hp hg hA)
    | (go_at_call 18; (with_reducible refine (read_is (a := a) p g _ x (y + z) _ _ K.out.1 K.out.2.1 _ (H.out _ hX) AR.out).mono ?_); rintro e w3 ⟨rfl, h3⟩; replace hX := Ext.trans hX h3; replace AR := Lib.hid (AR.out.ext h3); clear h3)
    | (go_at_call 18; (with_reducible refine (read_is (a := a) p g _ x y _ _ K.out.2.2.1 K.out.2.2.2.1 _ (H.out _ hX) AR.out).mono ?_); rintro e w3 ⟨rfl, h3⟩; replace hX := Ext.trans hX h3; replace AR := Lib.hid (AR.out.ext h3); clear h3)
    | (go_at_call 18; (with_reducible refine (read_is (a := a) p g _ (x + y) z _ _ K.out.2.2.2.2.1 K.out.2.2.2.2.2 _ (H.out _ hX) AR.out).mono ?_); rintro e w3 ⟨rfl, h3⟩; replace hX := Ext.trans hX h3; replace AR := Lib.hid (AR.out.ext h3); clear h3))
  go_ret
  exact ⟨rfl, hX⟩
set_option maxHeartbeats 4000000 in
set_option maxRecDepth 100000 in
theorem parts_no2 (L : List UInt8) (b : Int) (A : Option Addr) (n c : Nat) (x y z : Int) (y0 : 0 ≤ y) (z0 : 0 ≤ z) (y1 : y ≤ 200000) (z1 : z ≤ 200000) (x0 : 0 ≤ x) (x1 : x ≤ 200000) (hL : L.length ≤ 131072) (h : ¬ (x + (y + z) ≤ L.length)) (h2 : x + y ≤ L.length) (w : World) (hG : G a w) (hM : ∀ W, Ext w W → Calls Tryd.prog 21 #[.int .i64 b, .slice A n c] W (MadeP W L)) :
    Calls Tryd.prog 8 #[.int .i64 b, .slice A n c, .int .i64 x, .int .i64 y, .int .i64 z] w fun e w' => e = .returned (.bool true) ∧ Ext w w' := by
  have SH := Lib.hid (shown_any (a := a) w hG)
  have H := Lib.hid (fun W (hW : Ext w W) => hG.ext hW)
  have M := Lib.hid hM
  have a1 : ¬ okA L x (y + z) := fun k => h k.2.2
  have a2 : okA L x y := ⟨x0, y0, h2⟩
  have a3 : ¬ okA L (x + y) z := fun k => by have := k.2.2; omega
  obtain ⟨S1, hS1⟩ : ∃ S, rdS L (x) (y + z) = S := ⟨_, rfl⟩
  obtain ⟨E1, hE1⟩ : ∃ E, rdE L (x) (y + z) = E := ⟨_, rfl⟩
  obtain ⟨S2, hS2⟩ : ∃ S, rdS L (x) (y) = S := ⟨_, rfl⟩
  obtain ⟨E2, hE2⟩ : ∃ E, rdE L (x) (y) = E := ⟨_, rfl⟩
  obtain ⟨S3, hS3⟩ : ∃ S, rdS L (x + y) (z) = S := ⟨_, rfl⟩
  obtain ⟨E3, hE3⟩ : ∃ E, rdE L (x + y) (z) = E := ⟨_, rfl⟩
  have K := Lib.hid (And.intro hS1 (And.intro hE1 (And.intro hS2 (And.intro hE2 (And.intro hS3 hE3)))))
  obtain rfl : E1 = 10 := hE1.symm.trans (rd_no a1).2
  obtain rfl : E2 = 0 := hE2.symm.trans (rd_ok a2).2
  obtain rfl : E3 = 10 := hE3.symm.trans (rd_no a3).2
  obtain rfl : S1 = [] := hS1.symm.trans (rd_no a1).1
  clear a1 a2 a3 hS1 hS2 hS3 hE1 hE2 hE3
  clear hG hM
  go_enter Tryd.func8, Tryd.ntmps8
  go_wp2_with (first
    | (go_at_call 10; refine (SH.out).mono ?_; rintro e w1 ⟨rfl, hX⟩)
    | (go_at_call 21; refine (M.out _ hX).mono ?_; rintro e w2 ⟨p, g, rfl, hp, hg, h2, hA⟩; have HP := Lib.hid (And.intro (Nat.le_trans hX.size hp) (Nat.le_trans hX.size hg)); replace hX := Ext.trans hX h2; have AR := Lib.hid hA; clear h2 hp hg hA)
    | (go_at_call 18; (with_reducible refine (read_is (a := a) p g _ x (y + z) _ _ K.out.1 K.out.2.1 _ (H.out _ hX) AR.out).mono ?_); rintro e w3 ⟨rfl, h3⟩; replace hX := Ext.trans hX h3; replace AR := Lib.hid (AR.out.ext h3); clear h3)
    | (go_at_call 18; (with_reducible refine (read_is (a := a) p g _ x y _ _ K.out.2.2.1 K.out.2.2.2.1 _ (H.out _ hX) AR.out).mono ?_); rintro e w3 ⟨rfl, h3⟩; replace hX := Ext.trans hX h3; replace AR := Lib.hid (AR.out.ext h3); clear h3)
    | (go_at_call 18; (with_reducible refine (read_is (a := a) p g _ (x + y) z _ _ K.out.2.2.2.2.1 K.out.2.2.2.2.2 _ (H.out _ hX) AR.out).mono ?_); rintro e w3 ⟨rfl, h3⟩; replace hX := Ext.trans hX h3; replace AR := Lib.hid (AR.out.ext h3); clear h3))
  go_ret
  exact ⟨rfl, hX⟩
set_option maxHeartbeats 4000000 in
set_option maxRecDepth 100000 in
theorem parts_no1 (L : List UInt8) (b : Int) (A : Option Addr) (n c : Nat) (x y z : Int) (y0 : 0 ≤ y) (z0 : 0 ≤ z) (y1 : y ≤ 200000) (z1 : z ≤ 200000) (x0 : 0 ≤ x) (x1 : x ≤ 200000) (hL : L.length ≤ 131072) (h : ¬ (x + (y + z) ≤ L.length)) (h2 : ¬ (x + y ≤ L.length)) (w : World) (hG : G a w) (hM : ∀ W, Ext w W → Calls Tryd.prog 21 #[.int .i64 b, .slice A n c] W (MadeP W L)) :
    Calls Tryd.prog 8 #[.int .i64 b, .slice A n c, .int .i64 x, .int .i64 y, .int .i64 z] w fun e w' => e = .returned (.bool true) ∧ Ext w w' := by
  have SH := Lib.hid (shown_any (a := a) w hG)
  have H := Lib.hid (fun W (hW : Ext w W) => hG.ext hW)
  have M := Lib.hid hM
  have a1 : ¬ okA L x (y + z) := fun k => h k.2.2
  have a2 : ¬ okA L x y := fun k => h2 k.2.2
  obtain ⟨S1, hS1⟩ : ∃ S, rdS L (x) (y + z) = S := ⟨_, rfl⟩
  obtain ⟨E1, hE1⟩ : ∃ E, rdE L (x) (y + z) = E := ⟨_, rfl⟩
  obtain ⟨S2, hS2⟩ : ∃ S, rdS L (x) (y) = S := ⟨_, rfl⟩
  obtain ⟨E2, hE2⟩ : ∃ E, rdE L (x) (y) = E := ⟨_, rfl⟩
  obtain ⟨S3, hS3⟩ : ∃ S, rdS L (x + y) (z) = S := ⟨_, rfl⟩
  obtain ⟨E3, hE3⟩ : ∃ E, rdE L (x + y) (z) = E := ⟨_, rfl⟩
  have K := Lib.hid (And.intro hS1 (And.intro hE1 (And.intro hS2 (And.intro hE2 (And.intro hS3 hE3)))))
  obtain rfl : E1 = 10 := hE1.symm.trans (rd_no a1).2
  obtain rfl : E2 = 10 := hE2.symm.trans (rd_no a2).2
  obtain rfl : S1 = [] := hS1.symm.trans (rd_no a1).1
  clear a1 a2 hS1 hS2 hS3 hE1 hE2 hE3
  clear hG hM
  go_enter Tryd.func8, Tryd.ntmps8
  go_wp2_with (first
    | (go_at_call 10; refine (SH.out).mono ?_; rintro e w1 ⟨rfl, hX⟩)
    | (go_at_call 21; refine (M.out _ hX).mono ?_; rintro e w2 ⟨p, g, rfl, hp, hg, h2, hA⟩; have HP := Lib.hid (And.intro (Nat.le_trans hX.size hp) (Nat.le_trans hX.size hg)); replace hX := Ext.trans hX h2; have AR := Lib.hid hA; clear h2 hp hg hA)
    | (go_at_call 18; (with_reducible refine (read_is (a := a) p g _ x (y + z) _ _ K.out.1 K.out.2.1 _ (H.out _ hX) AR.out).mono ?_); rintro e w3 ⟨rfl, h3⟩; replace hX := Ext.trans hX h3; replace AR := Lib.hid (AR.out.ext h3); clear h3)
    | (go_at_call 18; (with_reducible refine (read_is (a := a) p g _ x y _ _ K.out.2.2.1 K.out.2.2.2.1 _ (H.out _ hX) AR.out).mono ?_); rintro e w3 ⟨rfl, h3⟩; replace hX := Ext.trans hX h3; replace AR := Lib.hid (AR.out.ext h3); clear h3)
    | (go_at_call 18; (with_reducible refine (read_is (a := a) p g _ (x + y) z _ _ K.out.2.2.2.2.1 K.out.2.2.2.2.2 _ (H.out _ hX) AR.out).mono ?_); rintro e w3 ⟨rfl, h3⟩; replace hX := Ext.trans hX h3; replace AR := Lib.hid (AR.out.ext h3); clear h3))
  go_ret
  exact ⟨rfl, hX⟩
theorem parts_walk (b : Int) (A : Option Addr) (n c : Nat) (xs : List OpR) (x y z : Int) (hb : -9223372036854775808 ≤ b ∧ b ≤ 9223372036854775807) (_hx : -9223372036854775808 ≤ x ∧ x ≤ 9223372036854775807) (_hy : -9223372036854775808 ≤ y ∧ y ≤ 9223372036854775807) (_hz : -9223372036854775808 ≤ z ∧ z ≤ 9223372036854775807) (w : World) (hO : OpsAt w A n xs) (hG : G a w) :
    Calls Tryd.prog 8 #[.int .i64 b, .slice A n c, .int .i64 x, .int .i64 y, .int .i64 z] w fun e w' => e = .returned (.bool true) ∧ Ext w w' := by
  by_cases hb1 : 1 ≤ b ∧ b ≤ 32
  · obtain ⟨b, rfl⟩ : ∃ k : Nat, b = k := ⟨b.toNat, by omega⟩
    obtain ⟨L, hL, hM⟩ := made_L (a := a) b (by omega) (by omega) A n c xs w hO hG
    by_cases e0 : y < 0
    · exact parts_e0 L b A n c x y z e0 w hG hM
    by_cases e1 : z < 0
    · exact parts_e1 L b A n c x y z e0 e1 w hG hM
    by_cases e2 : 200000 < y
    · exact parts_e2 L b A n c x y z e0 e1 e2 w hG hM
    by_cases e3 : 200000 < z
    · exact parts_e3 L b A n c x y z e0 e1 e2 e3 w hG hM
    by_cases e4 : x < 0
    · exact parts_e4 L b A n c x y z e0 e1 e2 e3 e4 w hG hM
    by_cases e5 : 200000 < x
    · exact parts_e5 L b A n c x y z e0 e1 e2 e3 e4 e5 w hG hM
    by_cases h : x + (y + z) ≤ L.length
    · exact parts_ok L b A n c x y z (by omega) (by omega) (by omega) (by omega) (by omega) (by omega) (by omega) h w hG hM
    · by_cases h2 : x + y ≤ L.length
      · exact parts_no2 L b A n c x y z (by omega) (by omega) (by omega) (by omega) (by omega) (by omega) (by omega) h h2 w hG hM
      · exact parts_no1 L b A n c x y z (by omega) (by omega) (by omega) (by omega) (by omega) (by omega) (by omega) h h2 w hG hM
  · exact parts_none b A n c x y z w hG (fun W hW => made_no (a := a) b hb1 hb _ W (hG.ext hW))
end
end Go.Proofs.YtmehoieijelncaaDoor
