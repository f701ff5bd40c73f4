/- selionlaw03.ArenaApart: the walk (made by gen_laws.py). -/
import Derived.Test.YtmehoieijelncaaDoorLawApart0
namespace Go.Proofs.YtmehoieijelncaaDoor
open Go.RowKit Go
section
variable {a : Nat → Addr}
set_option maxHeartbeats 4000000 in
set_option maxRecDepth 100000 in
theorem apart_none00 (b : Int) (A : Option Addr) (n c : Nat) (x : Int) (S0 S : List UInt8) (hS : S0.take 100 = S) (y : Int) (T0 T : List UInt8) (hT : T0.take 100 = T) (hs0 : S0.length ≤ 100) (ht0 : T0.length ≤ 100) (w : World) (hG : G a w) (hM : ∀ W, Ext w W → Calls Tryd.prog 21 #[.int .i64 b, .slice A n c] W (fun e w' => e = .returned (.tuple #[.pointer none, .bool false]) ∧ Ext W w')) :
    Calls Tryd.prog 7 #[.int .i64 b, .slice A n c, .int .i64 x, .string ⟨S0.toArray⟩, .int .i64 y, .string ⟨T0.toArray⟩] w fun e w' => e = .returned (.bool true) ∧ Ext w w' := by
  have SH := Lib.hid (shown_any (a := a) w hG)
  have H := Lib.hid (fun W (hW : Ext w W) => hG.ext hW)
  have M := Lib.hid hM
  have hs1 : (S0.length : Int) ≤ 100 := by omega
  have hsx : ByteArray.extract ⟨S0.toArray⟩ 0 S0.length = ⟨S.toArray⟩ := by rw [← hS]; exact extract_allN S0 100 hs0
  have hsz : (⟨S.toArray⟩ : ByteArray).size = S.length := by simp [ByteArray.size]
  have ht1 : (T0.length : Int) ≤ 100 := by omega
  have htx : ByteArray.extract ⟨T0.toArray⟩ 0 T0.length = ⟨T.toArray⟩ := by rw [← hT]; exact extract_allN T0 100 ht0
  have htz : (⟨T.toArray⟩ : ByteArray).size = T.length := by simp [ByteArray.size]
  clear hS hT hs0 ht0
  clear hG hM
  go_enter Tryd.func7, Tryd.ntmps7
  go_wp2_with (first
    | (go_at_call 10; refine (SH.out).mono ?_; rintro e w1 ⟨rfl, hX⟩)
    | (go_at_call 21; refine (M.out _ hX).mono ?_; rintro e w2 ⟨rfl, h2⟩; replace hX := Ext.trans hX h2; clear h2))
  go_ret
  exact ⟨rfl, hX⟩
set_option maxHeartbeats 4000000 in
set_option maxRecDepth 100000 in
theorem apart_e000 (L : List UInt8) (N : Nat) (hN : L.length = N) (hL : N ≤ 131072) (b : Int) (A : Option Addr) (n c : Nat) (x : Int) (S0 S : List UInt8) (hS : S0.take 100 = S) (y : Int) (T0 T : List UInt8) (hT : T0.take 100 = T) (hs0 : S0.length ≤ 100) (ht0 : T0.length ≤ 100) (x0 : x < 0) (w : World) (hG : G a w) (hM : ∀ W, Ext w W → Calls Tryd.prog 21 #[.int .i64 b, .slice A n c] W (MadeP W L)) :
    Calls Tryd.prog 7 #[.int .i64 b, .slice A n c, .int .i64 x, .string ⟨S0.toArray⟩, .int .i64 y, .string ⟨T0.toArray⟩] w fun e w' => e = .returned (.bool true) ∧ Ext w w' := by
  have SH := Lib.hid (shown_any (a := a) w hG)
  have H := Lib.hid (fun W (hW : Ext w W) => hG.ext hW)
  have M := Lib.hid hM
  have hs1 : (S0.length : Int) ≤ 100 := by omega
  have hsx : ByteArray.extract ⟨S0.toArray⟩ 0 S0.length = ⟨S.toArray⟩ := by rw [← hS]; exact extract_allN S0 100 hs0
  have hsz : (⟨S.toArray⟩ : ByteArray).size = S.length := by simp [ByteArray.size]
  have ht1 : (T0.length : Int) ≤ 100 := by omega
  have htx : ByteArray.extract ⟨T0.toArray⟩ 0 T0.length = ⟨T.toArray⟩ := by rw [← hT]; exact extract_allN T0 100 ht0
  have htz : (⟨T.toArray⟩ : ByteArray).size = T.length := by simp [ByteArray.size]
  have hSl : S.length ≤ 100 := by rw [← hS]; simp; omega
  have hTl : T.length ≤ 100 := by rw [← hT]; simp; omega
  have hN0 : (N : Int) ≤ 131072 := by omega
  have hn := Lib.hid (show (L.length : Int) = (N : Nat) by omega)
  clear hS hT hs0 ht0 hN
  clear hG hM
  go_enter Tryd.func7, Tryd.ntmps7
  go_wp2_with (first
    | (go_at_call 10; refine (SH.out).mono ?_; rintro e w1 ⟨rfl, hX⟩)
    | (go_at_call 21; have zz := AR1; refine (M.out _ hX).mono ?_; rintro e w3 ⟨p2, g2, rfl, hp, hg, h2, hA⟩; have HP2 := Lib.hid (And.intro (Nat.le_trans hX.size hp) (Nat.le_trans hX.size hg)); have D := Lib.hid (show (p ≠ g2 ∧ g ≠ g2) ∧ (p2 ≠ g ∧ g2 ≠ g) from by have := AR1.out.p.lt; have := AR1.out.b.lt; omega); replace hX := Ext.trans hX h2; replace AR1 := Lib.hid (AR1.out.ext h2); have AR2 := Lib.hid hA; clear h2 hp hg hA zz)
    | (go_at_call 21; refine (M.out _ hX).mono ?_; rintro e w2 ⟨p, g, rfl, hp, hg, h2, hA⟩; have HP := Lib.hid (And.intro (Nat.le_trans hX.size hp) (Nat.le_trans hX.size hg)); replace hX := Ext.trans hX h2; have AR1 := Lib.hid hA; clear h2 hp hg hA)
    | (go_at_call 14; (with_reducible refine (size_is (a := a) p g _ _ hn.out _ (H.out _ hX) AR1.out).mono ?_); rintro e w4 ⟨rfl, h4⟩; replace hX := Ext.trans hX h4; replace AR1 := Lib.hid (AR1.out.ext h4); replace AR2 := Lib.hid (AR2.out.ext h4); clear h4))
  go_ret
  exact ⟨rfl, hX⟩
set_option maxHeartbeats 4000000 in
set_option maxRecDepth 100000 in
theorem apart_e100 (L : List UInt8) (N : Nat) (hN : L.length = N) (hL : N ≤ 131072) (b : Int) (A : Option Addr) (n c : Nat) (x : Int) (S0 S : List UInt8) (hS : S0.take 100 = S) (y : Int) (T0 T : List UInt8) (hT : T0.take 100 = T) (hs0 : S0.length ≤ 100) (ht0 : T0.length ≤ 100) (x0 : 0 ≤ x) (y0 : y < 0) (w : World) (hG : G a w) (hM : ∀ W, Ext w W → Calls Tryd.prog 21 #[.int .i64 b, .slice A n c] W (MadeP W L)) :
    Calls Tryd.prog 7 #[.int .i64 b, .slice A n c, .int .i64 x, .string ⟨S0.toArray⟩, .int .i64 y, .string ⟨T0.toArray⟩] w fun e w' => e = .returned (.bool true) ∧ Ext w w' := by
  have SH := Lib.hid (shown_any (a := a) w hG)
  have H := Lib.hid (fun W (hW : Ext w W) => hG.ext hW)
  have M := Lib.hid hM
  have hs1 : (S0.length : Int) ≤ 100 := by omega
  have hsx : ByteArray.extract ⟨S0.toArray⟩ 0 S0.length = ⟨S.toArray⟩ := by rw [← hS]; exact extract_allN S0 100 hs0
  have hsz : (⟨S.toArray⟩ : ByteArray).size = S.length := by simp [ByteArray.size]
  have ht1 : (T0.length : Int) ≤ 100 := by omega
  have htx : ByteArray.extract ⟨T0.toArray⟩ 0 T0.length = ⟨T.toArray⟩ := by rw [← hT]; exact extract_allN T0 100 ht0
  have htz : (⟨T.toArray⟩ : ByteArray).size = T.length := by simp [ByteArray.size]
  have hSl : S.length ≤ 100 := by rw [← hS]; simp; omega
  have hTl : T.length ≤ 100 := by rw [← hT]; simp; omega
  have hN0 : (N : Int) ≤ 131072 := by omega
  have hn := Lib.hid (show (L.length : Int) = (N : Nat) by omega)
  clear hS hT hs0 ht0 hN
  clear hG hM
  go_enter Tryd.func7, Tryd.ntmps7
  go_wp2_with (first
    | (go_at_call 10; refine (SH.out).mono ?_; rintro e w1 ⟨rfl, hX⟩)
    | (go_at_call 21; have zz := AR1; refine (M.out _ hX).mono ?_; rintro e w3 ⟨p2, g2, rfl, hp, hg, h2, hA⟩; have HP2 := Lib.hid (And.intro (Nat.le_trans hX.size hp) (Nat.le_trans hX.size hg)); have D := Lib.hid (show (p ≠ g2 ∧ g ≠ g2) ∧ (p2 ≠ g ∧ g2 ≠ g) from by have := AR1.out.p.lt; have := AR1.out.b.lt; omega); replace hX := Ext.trans hX h2; replace AR1 := Lib.hid (AR1.out.ext h2); have AR2 := Lib.hid hA; clear h2 hp hg hA zz)
    | (go_at_call 21; refine (M.out _ hX).mono ?_; rintro e w2 ⟨p, g, rfl, hp, hg, h2, hA⟩; have HP := Lib.hid (And.intro (Nat.le_trans hX.size hp) (Nat.le_trans hX.size hg)); replace hX := Ext.trans hX h2; have AR1 := Lib.hid hA; clear h2 hp hg hA)
    | (go_at_call 14; (with_reducible refine (size_is (a := a) p g _ _ hn.out _ (H.out _ hX) AR1.out).mono ?_); rintro e w4 ⟨rfl, h4⟩; replace hX := Ext.trans hX h4; replace AR1 := Lib.hid (AR1.out.ext h4); replace AR2 := Lib.hid (AR2.out.ext h4); clear h4))
  go_ret
  exact ⟨rfl, hX⟩
set_option maxHeartbeats 4000000 in
set_option maxRecDepth 100000 in
theorem apart_e200 (L : List UInt8) (N : Nat) (hN : L.length = N) (hL : N ≤ 131072) (b : Int) (A : Option Addr) (n c : Nat) (x : Int) (S0 S : List UInt8) (hS : S0.take 100 = S) (y : Int) (T0 T : List UInt8) (hT : T0.take 100 = T) (hs0 : S0.length ≤ 100) (ht0 : T0.length ≤ 100) (x0 : 0 ≤ x) (y0 : 0 ≤ y) (x1 : (N : Int) < x) (w : World) (hG : G a w) (hM : ∀ W, Ext w W → Calls Tryd.prog 21 #[.int .i64 b, .slice A n c] W (MadeP W L)) :
    Calls Tryd.prog 7 #[.int .i64 b, .slice A n c, .int .i64 x, .string ⟨S0.toArray⟩, .int .i64 y, .string ⟨T0.toArray⟩] w fun e w' => e = .returned (.bool true) ∧ Ext w w' := by
  have SH := Lib.hid (shown_any (a := a) w hG)
  have H := Lib.hid (fun W (hW : Ext w W) => hG.ext hW)
  have M := Lib.hid hM
  have hs1 : (S0.length : Int) ≤ 100 := by omega
  have hsx : ByteArray.extract ⟨S0.toArray⟩ 0 S0.length = ⟨S.toArray⟩ := by rw [← hS]; exact extract_allN S0 100 hs0
  have hsz : (⟨S.toArray⟩ : ByteArray).size = S.length := by simp [ByteArray.size]
  have ht1 : (T0.length : Int) ≤ 100 := by omega
  have htx : ByteArray.extract ⟨T0.toArray⟩ 0 T0.length = ⟨T.toArray⟩ := by rw [← hT]; exact extract_allN T0 100 ht0
  have htz : (⟨T.toArray⟩ : ByteArray).size = T.length := by simp [ByteArray.size]
  have hSl : S.length ≤ 100 := by rw [← hS]; simp; omega
  have hTl : T.length ≤ 100 := by rw [← hT]; simp; omega
  have hN0 : (N : Int) ≤ 131072 := by omega
  have hn := Lib.hid (show (L.length : Int) = (N : Nat) by omega)
  clear hS hT hs0 ht0 hN
  clear hG hM
  go_enter Tryd.func7, Tryd.ntmps7
  go_wp2_with (first
    | (go_at_call 10; refine (SH.out).mono ?_; rintro e w1 ⟨rfl, hX⟩)
    | (go_at_call 21; have zz := AR1; refine (M.out _ hX).mono ?_; rintro e w3 ⟨p2, g2, rfl, hp, hg, h2, hA⟩; have HP2 := Lib.hid (And.intro (Nat.le_trans hX.size hp) (Nat.le_trans hX.size hg)); have D := Lib.hid (show (p ≠ g2 ∧ g ≠ g2) ∧ (p2 ≠ g ∧ g2 ≠ g) from by have := AR1.out.p.lt; have := AR1.out.b.lt; omega); replace hX := Ext.trans hX h2; replace AR1 := Lib.hid (AR1.out.ext h2); have AR2 := Lib.hid hA; clear h2 hp hg hA zz)
    | (go_at_call 21; refine (M.out _ hX).mono ?_; rintro e w2 ⟨p, g, rfl, hp, hg, h2, hA⟩; have HP := Lib.hid (And.intro (Nat.le_trans hX.size hp) (Nat.le_trans hX.size hg)); replace hX := Ext.trans hX h2; have AR1 := Lib.hid hA; clear h2 hp hg hA)
    | (go_at_call 14; (with_reducible refine (size_is (a := a) p g _ _ hn.out _ (H.out _ hX) AR1.out).mono ?_); rintro e w4 ⟨rfl, h4⟩; replace hX := Ext.trans hX h4; replace AR1 := Lib.hid (AR1.out.ext h4); replace AR2 := Lib.hid (AR2.out.ext h4); clear h4))
  go_ret
  exact ⟨rfl, hX⟩
set_option maxHeartbeats 4000000 in
set_option maxRecDepth 100000 in
theorem apart_e300 (L : List UInt8) (N : Nat) (hN : L.length = N) (hL : N ≤ 131072) (b : Int) (A : Option Addr) (n c : Nat) (x : Int) (S0 S : List UInt8) (hS : S0.take 100 = S) (y : Int) (T0 T : List UInt8) (hT : T0.take 100 = T) (hs0 : S0.length ≤ 100) (ht0 : T0.length ≤ 100) (x0 : 0 ≤ x) (y0 : 0 ≤ y) (x1 : x ≤ N) (y1 : (N : Int) < y) (w : World) (hG : G a w) (hM : ∀ W, Ext w W → Calls Tryd.prog 21 #[.int .i64 b, .slice A n c] W (MadeP W L)) :
    Calls Tryd.prog 7 #[.int .i64 b, .slice A n c, .int .i64 x, .string ⟨S0.toArray⟩, .int .i64 y, .string ⟨T0.toArray⟩] w fun e w' => e = .returned (.bool true) ∧ Ext w w' := by
  have SH := Lib.hid (shown_any (a := a) w hG)
  have H := Lib.hid (fun W (hW : Ext w W) => hG.ext hW)
  have M := Lib.hid hM
  have hs1 : (S0.length : Int) ≤ 100 := by omega
  have hsx : ByteArray.extract ⟨S0.toArray⟩ 0 S0.length = ⟨S.toArray⟩ := by rw [← hS]; exact extract_allN S0 100 hs0
  have hsz : (⟨S.toArray⟩ : ByteArray).size = S.length := by simp [ByteArray.size]
  have ht1 : (T0.length : Int) ≤ 100 := by omega
  have htx : ByteArray.extract ⟨T0.toArray⟩ 0 T0.length = ⟨T.toArray⟩ := by rw [← hT]; exact extract_allN T0 100 ht0
  have htz : (⟨T.toArray⟩ : ByteArray).size = T.length := by simp [ByteArray.size]
  have hSl : S.length ≤ 100 := by rw [← hS]; simp; omega
  have hTl : T.length ≤ 100 := by rw [← hT]; simp; omega
  have hN0 : (N : Int) ≤ 131072 := by omega
  have hn := Lib.hid (show (L.length : Int) = (N : Nat) by omega)
  clear hS hT hs0 ht0 hN
  clear hG hM
  go_enter Tryd.func7, Tryd.ntmps7
  go_wp2_with (first
    | (go_at_call 10; refine (SH.out).mono ?_; rintro e w1 ⟨rfl, hX⟩)
    | (go_at_call 21; have zz := AR1; refine (M.out _ hX).mono ?_; rintro e w3 ⟨p2, g2, rfl, hp, hg, h2, hA⟩; have HP2 := Lib.hid (And.intro (Nat.le_trans hX.size hp) (Nat.le_trans hX.size hg)); have D := Lib.hid (show (p ≠ g2 ∧ g ≠ g2) ∧ (p2 ≠ g ∧ g2 ≠ g) from by have := AR1.out.p.lt; have := AR1.out.b.lt; omega); replace hX := Ext.trans hX h2; replace AR1 := Lib.hid (AR1.out.ext h2); have AR2 := Lib.hid hA; clear h2 hp hg hA zz)
    | (go_at_call 21; refine (M.out _ hX).mono ?_; rintro e w2 ⟨p, g, rfl, hp, hg, h2, hA⟩; have HP := Lib.hid (And.intro (Nat.le_trans hX.size hp) (Nat.le_trans hX.size hg)); replace hX := Ext.trans hX h2; have AR1 := Lib.hid hA; clear h2 hp hg hA)
    | (go_at_call 14; (with_reducible refine (size_is (a := a) p g _ _ hn.out _ (H.out _ hX) AR1.out).mono ?_); rintro e w4 ⟨rfl, h4⟩; replace hX := Ext.trans hX h4; replace AR1 := Lib.hid (AR1.out.ext h4); replace AR2 := Lib.hid (AR2.out.ext h4); clear h4))
  go_ret
  exact ⟨rfl, hX⟩
set_option maxHeartbeats 4000000 in
set_option maxRecDepth 100000 in
theorem apart_e400 (L : List UInt8) (N : Nat) (hN : L.length = N) (hL : N ≤ 131072) (b : Int) (A : Option Addr) (n c : Nat) (x : Int) (S0 S : List UInt8) (hS : S0.take 100 = S) (y : Int) (T0 T : List UInt8) (hT : T0.take 100 = T) (hs0 : S0.length ≤ 100) (ht0 : T0.length ≤ 100) (x0 : 0 ≤ x) (y0 : 0 ≤ y) (x1 : x ≤ N) (y1 : y ≤ N) (m1 : y < x + S.length) (m2 : x < y + T.length) (w : World) (hG : G a w) (hM : ∀ W, Ext w W → Calls Tryd.prog 21 #[.int .i64 b, .slice A n c] W (MadeP W L)) :
    Calls Tryd.prog 7 #[.int .i64 b, .slice A n c, .int .i64 x, .string ⟨S0.toArray⟩, .int .i64 y, .string ⟨T0.toArray⟩] w fun e w' => e = .returned (.bool true) ∧ Ext w w' := by
  have SH := Lib.hid (shown_any (a := a) w hG)
  have H := Lib.hid (fun W (hW : Ext w W) => hG.ext hW)
  have M := Lib.hid hM
  have hs1 : (S0.length : Int) ≤ 100 := by omega
  have hsx : ByteArray.extract ⟨S0.toArray⟩ 0 S0.length = ⟨S.toArray⟩ := by rw [← hS]; exact extract_allN S0 100 hs0
  have hsz : (⟨S.toArray⟩ : ByteArray).size = S.length := by simp [ByteArray.size]
  have ht1 : (T0.length : Int) ≤ 100 := by omega
  have htx : ByteArray.extract ⟨T0.toArray⟩ 0 T0.length = ⟨T.toArray⟩ := by rw [← hT]; exact extract_allN T0 100 ht0
  have htz : (⟨T.toArray⟩ : ByteArray).size = T.length := by simp [ByteArray.size]
  have hSl : S.length ≤ 100 := by rw [← hS]; simp; omega
  have hTl : T.length ≤ 100 := by rw [← hT]; simp; omega
  have hN0 : (N : Int) ≤ 131072 := by omega
  have hn := Lib.hid (show (L.length : Int) = (N : Nat) by omega)
  clear hS hT hs0 ht0 hN
  clear hG hM
  go_enter Tryd.func7, Tryd.ntmps7
  go_wp2_with (first
    | (go_at_call 10; refine (SH.out).mono ?_; rintro e w1 ⟨rfl, hX⟩)
    | (go_at_call 21; have zz := AR1; refine (M.out _ hX).mono ?_; rintro e w3 ⟨p2, g2, rfl, hp, hg, h2, hA⟩; have HP2 := Lib.hid (And.intro (Nat.le_trans hX.size hp) (Nat.le_trans hX.size hg)); have D := Lib.hid (show (p ≠ g2 ∧ g ≠ g2) ∧ (p2 ≠ g ∧ g2 ≠ g) from by have := AR1.out.p.lt; have := AR1.out.b.lt; omega); replace hX := Ext.trans hX h2; replace AR1 := Lib.hid (AR1.out.ext h2); have AR2 := Lib.hid hA; clear h2 hp hg hA zz)
    | (go_at_call 21; refine (M.out _ hX).mono ?_; rintro e w2 ⟨p, g, rfl, hp, hg, h2, hA⟩; have HP := Lib.hid (And.intro (Nat.le_trans hX.size hp) (Nat.le_trans hX.size hg)); replace hX := Ext.trans hX h2; have AR1 := Lib.hid hA; clear h2 hp hg hA)
    | (go_at_call 14; (with_reducible refine (size_is (a := a) p g _ _ hn.out _ (H.out _ hX) AR1.out).mono ?_); rintro e w4 ⟨rfl, h4⟩; replace hX := Ext.trans hX h4; replace AR1 := Lib.hid (AR1.out.ext h4); replace AR2 := Lib.hid (AR2.out.ext h4); clear h4))
  go_ret
  exact ⟨rfl, hX⟩
set_option maxHeartbeats 4000000 in
set_option maxRecDepth 100000 in
theorem apart_none01 (b : Int) (A : Option Addr) (n c : Nat) (x : Int) (S0 S : List UInt8) (hS : S0.take 100 = S) (y : Int) (T0 T : List UInt8) (hT : T0.take 100 = T) (hs0 : S0.length ≤ 100) (ht0 : ¬ T0.length ≤ 100) (w : World) (hG : G a w) (hM : ∀ W, Ext w W → Calls Tryd.prog 21 #[.int .i64 b, .slice A n c] W (fun e w' => e = .returned (.tuple #[.pointer none, .bool false]) ∧ Ext W w')) :
    Calls Tryd.prog 7 #[.int .i64 b, .slice A n c, .int .i64 x, .string ⟨S0.toArray⟩, .int .i64 y, .string ⟨T0.toArray⟩] w fun e w' => e = .returned (.bool true) ∧ Ext w w' := by
  have SH := Lib.hid (shown_any (a := a) w hG)
  have H := Lib.hid (fun W (hW : Ext w W) => hG.ext hW)
  have M := Lib.hid hM
  have hs1 : (S0.length : Int) ≤ 100 := by omega
  have hsx : ByteArray.extract ⟨S0.toArray⟩ 0 S0.length = ⟨S.toArray⟩ := by rw [← hS]; exact extract_allN S0 100 hs0
  have hsz : (⟨S.toArray⟩ : ByteArray).size = S.length := by simp [ByteArray.size]
  have ht1 : ¬ (T0.length : Int) ≤ 100 := by omega
  have htx : ByteArray.extract ⟨T0.toArray⟩ 0 100 = ⟨T.toArray⟩ := by rw [← hT]; exact extract_take T0 100
  have htz : (⟨T.toArray⟩ : ByteArray).size = T.length := by simp [ByteArray.size]
  clear hS hT hs0 ht0
  clear hG hM
  go_enter Tryd.func7, Tryd.ntmps7
  go_wp2_with (first
    | (go_at_call 10; refine (SH.out).mono ?_; rintro e w1 ⟨rfl, hX⟩)
    | (go_at_call 21; refine (M.out _ hX).mono ?_; rintro e w2 ⟨rfl, h2⟩; replace hX := Ext.trans hX h2; clear h2))
  go_ret
  exact ⟨rfl, hX⟩
set_option maxHeartbeats 4000000 in
set_option maxRecDepth 100000 in
theorem apart_e001 (L : List UInt8) (N : Nat) (hN : L.length = N) (hL : N ≤ 131072) (b : Int) (A : Option Addr) (n c : Nat) (x : Int) (S0 S : List UInt8) (hS : S0.take 100 = S) (y : Int) (T0 T : List UInt8) (hT : T0.take 100 = T) (hs0 : S0.length ≤ 100) (ht0 : ¬ T0.length ≤ 100) (x0 : x < 0) (w : World) (hG : G a w) (hM : ∀ W, Ext w W → Calls Tryd.prog 21 #[.int .i64 b, .slice A n c] W (MadeP W L)) :
    Calls Tryd.prog 7 #[.int .i64 b, .slice A n c, .int .i64 x, .string ⟨S0.toArray⟩, .int .i64 y, .string ⟨T0.toArray⟩] w fun e w' => e = .returned (.bool true) ∧ Ext w w' := by
  have SH := Lib.hid (shown_any (a := a) w hG)
  have H := Lib.hid (fun W (hW : Ext w W) => hG.ext hW)
  have M := Lib.hid hM
  have hs1 : (S0.length : Int) ≤ 100 := by omega
  have hsx : ByteArray.extract ⟨S0.toArray⟩ 0 S0.length = ⟨S.toArray⟩ := by rw [← hS]; exact extract_allN S0 100 hs0
  have hsz : (⟨S.toArray⟩ : ByteArray).size = S.length := by simp [ByteArray.size]
  have ht1 : ¬ (T0.length : Int) ≤ 100 := by omega
  have htx : ByteArray.extract ⟨T0.toArray⟩ 0 100 = ⟨T.toArray⟩ := by rw [← hT]; exact extract_take T0 100
  have htz : (⟨T.toArray⟩ : ByteArray).size = T.length := by simp [ByteArray.size]
  have hSl : S.length ≤ 100 := by rw [← hS]; simp; omega
  have hTl : T.length ≤ 100 := by rw [← hT]; simp; omega
  have hN0 : (N : Int) ≤ 131072 := by omega
  have hn := Lib.hid (show (L.length : Int) = (N : Nat) by omega)
  clear hS hT hs0 ht0 hN
  clear hG hM
  go_enter Tryd.func7, Tryd.ntmps7
  go_wp2_with (first
    | (go_at_call 10; refine (SH.out).mono ?_; rintro e w1 ⟨rfl, hX⟩)
    | (go_at_call 21; have zz := AR1; refine (M.out _ hX).mono ?_; rintro e w3 ⟨p2, g2, rfl, hp, hg, h2, hA⟩; have HP2 := Lib.hid (And.intro (Nat.le_trans hX.size hp) (Nat.le_trans hX.size hg)); have D := Lib.hid (show (p ≠ g2 ∧ g ≠ g2) ∧ (p2 ≠ g ∧ g2 ≠ g) from by have := AR1.out.p.lt; have := AR1.out.b.lt; omega); replace hX := Ext.trans hX h2; replace AR1 := Lib.hid (AR1.out.ext h2); have AR2 := Lib.hid hA; clear h2 hp hg hA zz)
    | (go_at_call 21; refine (M.out _ hX).mono ?_; rintro e w2 ⟨p, g, rfl, hp, hg, h2, hA⟩; have HP := Lib.hid (And.intro (Nat.le_trans hX.size hp) (Nat.le_trans hX.size hg)); replace hX := Ext.trans hX h2; have AR1 := Lib.hid hA; clear h2 hp hg hA)
    | (go_at_call 14; (with_reducible refine (size_is (a := a) p g _ _ hn.out _ (H.out _ hX) AR1.out).mono ?_); rintro e w4 ⟨rfl, h4⟩; replace hX := Ext.trans hX h4; replace AR1 := Lib.hid (AR1.out.ext h4); replace AR2 := Lib.hid (AR2.out.ext h4); clear h4))
  go_ret
  exact ⟨rfl, hX⟩
set_option maxHeartbeats 4000000 in
set_option maxRecDepth 100000 in
theorem apart_e101 (L : List UInt8) (N : Nat) (hN : L.length = N) (hL : N ≤ 131072) (b : Int) (A : Option Addr) (n c : Nat) (x : Int) (S0 S : List UInt8) (hS : S0.take 100 = S) (y : Int) (T0 T : List UInt8) (hT : T0.take 100 = T) (hs0 : S0.length ≤ 100) (ht0 : ¬ T0.length ≤ 100) (x0 : 0 ≤ x) (y0 : y < 0) (w : World) (hG : G a w) (hM : ∀ W, Ext w W → Calls Tryd.prog 21 #[.int .i64 b, .slice A n c] W (MadeP W L)) :
    Calls Tryd.prog 7 #[.int .i64 b, .slice A n c, .int .i64 x, .string ⟨S0.toArray⟩, .int .i64 y, .string ⟨T0.toArray⟩] w fun e w' => e = .returned (.bool true) ∧ Ext w w' := by
  have SH := Lib.hid (shown_any (a := a) w hG)
  have H := Lib.hid (fun W (hW : Ext w W) => hG.ext hW)
  have M := Lib.hid hM
  have hs1 : (S0.length : Int) ≤ 100 := by omega
  have hsx : ByteArray.extract ⟨S0.toArray⟩ 0 S0.length = ⟨S.toArray⟩ := by rw [← hS]; exact extract_allN S0 100 hs0
  have hsz : (⟨S.toArray⟩ : ByteArray).size = S.length := by simp [ByteArray.size]
  have ht1 : ¬ (T0.length : Int) ≤ 100 := by omega
  have htx : ByteArray.extract ⟨T0.toArray⟩ 0 100 = ⟨T.toArray⟩ := by rw [← hT]; exact extract_take T0 100
  have htz : (⟨T.toArray⟩ : ByteArray).size = T.length := by simp [ByteArray.size]
  have hSl : S.length ≤ 100 := by rw [← hS]; simp; omega
  have hTl : T.length ≤ 100 := by rw [← hT]; simp; omega
  have hN0 : (N : Int) ≤ 131072 := by omega
  have hn := Lib.hid (show (L.length : Int) = (N : Nat) by omega)
  clear hS hT hs0 ht0 hN
  clear hG hM
  go_enter Tryd.func7, Tryd.ntmps7
  go_wp2_with (first
    | (go_at_call 10; refine (SH.out).mono ?_; rintro e w1 ⟨rfl, hX⟩)
    | (go_at_call 21; have zz := AR1; refine (M.out _ hX).mono ?_; rintro e w3 ⟨p2, g2, rfl, hp, hg, h2, hA⟩; have HP2 := Lib.hid (And.intro (Nat.le_trans hX.size hp) (Nat.le_trans hX.size hg)); have D := Lib.hid (show (p ≠ g2 ∧ g ≠ g2) ∧ (p2 ≠ g ∧ g2 ≠ g) from by have := AR1.out.p.lt; have := AR1.out.b.lt; omega); replace hX := Ext.trans hX h2; replace AR1 := Lib.hid (AR1.out.ext h2); have AR2 := Lib.hid hA; clear h2 hp hg hA zz)
    | (go_at_call 21; refine (M.out _ hX).mono ?_; rintro e w2 ⟨p, g, rfl, hp, hg, h2, hA⟩; have HP := Lib.hid (And.intro (Nat.le_trans hX.size hp) (Nat.le_trans hX.size hg)); replace hX := Ext.trans hX h2; have AR1 := Lib.hid hA; clear h2 hp hg hA)
    | (go_at_call 14; (with_reducible refine (size_is (a := a) p g _ _ hn.out _ (H.out _ hX) AR1.out).mono ?_); rintro e w4 ⟨rfl, h4⟩; replace hX := Ext.trans hX h4; replace AR1 := Lib.hid (AR1.out.ext h4); replace AR2 := Lib.hid (AR2.out.ext h4); clear h4))
  go_ret
  exact ⟨rfl, hX⟩
set_option maxHeartbeats 4000000 in
set_option maxRecDepth 100000 in
theorem apart_e201 (L : List UInt8) (N : Nat) (hN : L.length = N) (hL : N ≤ 131072) (b : Int) (A : Option Addr) (n c : Nat) (x : Int) (S0 S : List UInt8) (hS : S0.take 100 = S) (y : Int) (T0 T : List UInt8) (hT : T0.take 100 = T) (hs0 : S0.length ≤ 100) (ht0 : ¬ T0.length ≤ 100) (x0 : 0 ≤ x) (y0 : 0 ≤ y) (x1 : (N : Int) < x) (w : World) (hG : G a w) (hM : ∀ W, Ext w W → Calls Tryd.prog 21 #[.int .i64 b, .slice A n c] W (MadeP W L)) :
    Calls Tryd.prog 7 #[.int .i64 b, .slice A n c, .int .i64 x, .string ⟨S0.toArray⟩, .int .i64 y, .string ⟨T0.toArray⟩] w fun e w' => e = .returned (.bool true) ∧ Ext w w' := by
  have SH := Lib.hid (shown_any (a := a) w hG)
  have H := Lib.hid (fun W (hW : Ext w W) => hG.ext hW)
  have M := Lib.hid hM
  have hs1 : (S0.length : Int) ≤ 100 := by omega
  have hsx : ByteArray.extract ⟨S0.toArray⟩ 0 S0.length = ⟨S.toArray⟩ := by rw [← hS]; exact extract_allN S0 100 hs0
  have hsz : (⟨S.toArray⟩ : ByteArray).size = S.length := by simp [ByteArray.size]
  have ht1 : ¬ (T0.length : Int) ≤ 100 := by omega
  have htx : ByteArray.extract ⟨T0.toArray⟩ 0 100 = ⟨T.toArray⟩ := by rw [← hT]; exact extract_take T0 100
  have htz : (⟨T.toArray⟩ : ByteArray).size = T.length := by simp [ByteArray.size]
  have hSl : S.length ≤ 100 := by rw [← hS]; simp; omega
  have hTl : T.length ≤ 100 := by rw [← hT]; simp; omega
  have hN0 : (N : Int) ≤ 131072 := by omega
  have hn := Lib.hid (show (L.length : Int) = (N : Nat) by omega)
  clear hS hT hs0 ht0 hN
  clear hG hM
  go_enter Tryd.func7, Tryd.ntmps7
  go_wp2_with (first
    | (go_at_call 10; refine (SH.out).mono ?_; rintro e w1 ⟨rfl, hX⟩)
    | (go_at_call 21; have zz := AR1; refine (M.out _ hX).mono ?_; rintro e w3 ⟨p2, g2, rfl, hp, hg, h2, hA⟩; have HP2 := Lib.hid (And.intro (Nat.le_trans hX.size hp) (Nat.le_trans hX.size hg)); have D := Lib.hid (show (p ≠ g2 ∧ g ≠ g2) ∧ (p2 ≠ g ∧ g2 ≠ g) from by have := AR1.out.p.lt; have := AR1.out.b.lt; omega); replace hX := Ext.trans hX h2; replace AR1 := Lib.hid (AR1.out.ext h2); have AR2 := Lib.hid hA; clear h2 hp hg hA zz)
    | (go_at_call 21; refine (M.out _ hX).mono ?_; rintro e w2 ⟨p, g, rfl, hp, hg, h2, hA⟩; have HP := Lib.hid (And.intro (Nat.le_trans hX.size hp) (Nat.le_trans hX.size hg)); replace hX := Ext.trans hX h2; have AR1 := Lib.hid hA; clear h2 hp hg hA)
    | (go_at_call 14; (with_reducible refine (size_is (a := a) p g _ _ hn.out _ (H.out _ hX) AR1.out).mono ?_); rintro e w4 ⟨rfl, h4⟩; replace hX := Ext.trans hX h4; replace AR1 := Lib.hid (AR1.out.ext h4); replace AR2 := Lib.hid (AR2.out.ext h4); clear h4))
  go_ret
  exact ⟨rfl, hX⟩
set_option maxHeartbeats 4000000 in
set_option maxRecDepth 100000 in
theorem apart_e301 (L : List UInt8) (N : Nat) (hN : L.length = N) (hL : N ≤ 131072) (b : Int) (A : Option Addr) (n c : Nat) (x : Int) (S0 S : List UInt8) (hS : S0.take 100 = S) (y : Int) (T0 T : List UInt8) (hT : T0.take 100 = T) (hs0 : S0.length ≤ 100) (ht0 : ¬ T0.length ≤ 100) (x0 : 0 ≤ x) (y0 : 0 ≤ y) (x1 : x ≤ N) (y1 : (N : Int) < y) (w : World) (hG : G a w) (hM : ∀ W, Ext w W → Calls Tryd.prog 21 #[.int .i64 b, .slice A n c] W (MadeP W L)) :
    Calls Tryd.prog 7 #[.int .i64 b, .slice A n c, .int .i64 x, .string ⟨S0.toArray⟩, .int .i64 y, .string ⟨T0.toArray⟩] w fun e w' => e = .returned (.bool true) ∧ Ext w w' := by
  have SH := Lib.hid (shown_any (a := a) w hG)
  have H := Lib.hid (fun W (hW : Ext w W) => hG.ext hW)
  have M := Lib.hid hM
  have hs1 : (S0.length : Int) ≤ 100 := by omega
  have hsx : ByteArray.extract ⟨S0.toArray⟩ 0 S0.length = ⟨S.toArray⟩ := by rw [← hS]; exact extract_allN S0 100 hs0
  have hsz : (⟨S.toArray⟩ : ByteArray).size = S.length := by simp [ByteArray.size]
  have ht1 : ¬ (T0.length : Int) ≤ 100 := by omega
  have htx : ByteArray.extract ⟨T0.toArray⟩ 0 100 = ⟨T.toArray⟩ := by rw [← hT]; exact extract_take T0 100
  have htz : (⟨T.toArray⟩ : ByteArray).size = T.length := by simp [ByteArray.size]
  have hSl : S.length ≤ 100 := by rw [← hS]; simp; omega
  have hTl : T.length ≤ 100 := by rw [← hT]; simp; omega
  have hN0 : (N : Int) ≤ 131072 := by omega
  have hn := Lib.hid (show (L.length : Int) = (N : Nat) by omega)
  clear hS hT hs0 ht0 hN
  clear hG hM
  go_enter Tryd.func7, Tryd.ntmps7
  go_wp2_with (first
    | (go_at_call 10; refine (SH.out).mono ?_; rintro e w1 ⟨rfl, hX⟩)
    | (go_at_call 21; have zz := AR1; refine (M.out _ hX).mono ?_; rintro e w3 ⟨p2, g2, rfl, hp, hg, h2, hA⟩; have HP2 := Lib.hid (And.intro (Nat.le_trans hX.size hp) (Nat.le_trans hX.size hg)); have D := Lib.hid (show (p ≠ g2 ∧ g ≠ g2) ∧ (p2 ≠ g ∧ g2 ≠ g) from by have := AR1.out.p.lt; have := AR1.out.b.lt; omega); replace hX := Ext.trans hX h2; replace AR1 := Lib.hid (AR1.out.ext h2); have AR2 := Lib.hid hA; clear h2 hp hg hA zz)
    | (go_at_call 21; refine (M.out _ hX).mono ?_; rintro e w2 ⟨p, g, rfl, hp, hg, h2, hA⟩; have HP := Lib.hid (And.intro (Nat.le_trans hX.size hp) (Nat.le_trans hX.size hg)); replace hX := Ext.trans hX h2; have AR1 := Lib.hid hA; clear h2 hp hg hA)
    | (go_at_call 14; (with_reducible refine (size_is (a := a) p g _ _ hn.out _ (H.out _ hX) AR1.out).mono ?_); rintro e w4 ⟨rfl, h4⟩; replace hX := Ext.trans hX h4; replace AR1 := Lib.hid (AR1.out.ext h4); replace AR2 := Lib.hid (AR2.out.ext h4); clear h4))
  go_ret
  exact ⟨rfl, hX⟩
set_option maxHeartbeats 4000000 in
set_option maxRecDepth 100000 in
theorem apart_e401 (L : List UInt8) (N : Nat) (hN : L.length = N) (hL : N ≤ 131072) (b : Int) (A : Option Addr) (n c : Nat) (x : Int) (S0 S : List UInt8) (hS : S0.take 100 = S) (y : Int) (T0 T : List UInt8) (hT : T0.take 100 = T) (hs0 : S0.length ≤ 100) (ht0 : ¬ T0.length ≤ 100) (x0 : 0 ≤ x) (y0 : 0 ≤ y) (x1 : x ≤ N) (y1 : y ≤ N) (m1 : y < x + S.length) (m2 : x < y + T.length) (w : World) (hG : G a w) (hM : ∀ W, Ext w W → Calls Tryd.prog 21 #[.int .i64 b, .slice A n c] W (MadeP W L)) :
    Calls Tryd.prog 7 #[.int .i64 b, .slice A n c, .int .i64 x, .string ⟨S0.toArray⟩, .int .i64 y, .string ⟨T0.toArray⟩] w fun e w' => e = .returned (.bool true) ∧ Ext w w' := by
  have SH := Lib.hid (shown_any (a := a) w hG)
  have H := Lib.hid (fun W (hW : Ext w W) => hG.ext hW)
  have M := Lib.hid hM
  have hs1 : (S0.length : Int) ≤ 100 := by omega
  have hsx : ByteArray.extract ⟨S0.toArray⟩ 0 S0.length = ⟨S.toArray⟩ := by rw [← hS]; exact extract_allN S0 100 hs0
  have hsz : (⟨S.toArray⟩ : ByteArray).size = S.length := by simp [ByteArray.size]
  have ht1 : ¬ (T0.length : Int) ≤ 100 := by omega
  have htx : ByteArray.extract ⟨T0.toArray⟩ 0 100 = ⟨T.toArray⟩ := by rw [← hT]; exact extract_take T0 100
  have htz : (⟨T.toArray⟩ : ByteArray).size = T.length := by simp [ByteArray.size]
  have hSl : S.length ≤ 100 := by rw [← hS]; simp; omega
  have hTl : T.length ≤ 100 := by rw [← hT]; simp; omega
  have hN0 : (N : Int) ≤ 131072 := by omega
  have hn := Lib.hid (show (L.length : Int) = (N : Nat) by omega)
  clear hS hT hs0 ht0 hN
  clear hG hM
  go_enter Tryd.func7, Tryd.ntmps7
  go_wp2_with (first
    | (go_at_call 10; refine (SH.out).mono ?_; rintro e w1 ⟨rfl, hX⟩)
    | (go_at_call 21; have zz := AR1; refine (M.out _ hX).mono ?_; rintro e w3 ⟨p2, g2, rfl, hp, hg, h2, hA⟩; have HP2 := Lib.hid (And.intro (Nat.le_trans hX.size hp) (Nat.le_trans hX.size hg)); have D := Lib.hid (show (p ≠ g2 ∧ g ≠ g2) ∧ (p2 ≠ g ∧ g2 ≠ g) from by have := AR1.out.p.lt; have := AR1.out.b.lt; omega); replace hX := Ext.trans hX h2; replace AR1 := Lib.hid (AR1.out.ext h2); have AR2 := Lib.hid hA; clear h2 hp hg hA zz)
    | (go_at_call 21; refine (M.out _ hX).mono ?_; rintro e w2 ⟨p, g, rfl, hp, hg, h2, hA⟩; have HP := Lib.hid (And.intro (Nat.le_trans hX.size hp) (Nat.le_trans hX.size hg)); replace hX := Ext.trans hX h2; have AR1 := Lib.hid hA; clear h2 hp hg hA)
    | (go_at_call 14; (with_reducible refine (size_is (a := a) p g _ _ hn.out _ (H.out _ hX) AR1.out).mono ?_); rintro e w4 ⟨rfl, h4⟩; replace hX := Ext.trans hX h4; replace AR1 := Lib.hid (AR1.out.ext h4); replace AR2 := Lib.hid (AR2.out.ext h4); clear h4))
  go_ret
  exact ⟨rfl, hX⟩
set_option maxHeartbeats 4000000 in
set_option maxRecDepth 100000 in
theorem apart_none10 (b : Int) (A : Option Addr) (n c : Nat) (x : Int) (S0 S : List UInt8) (hS : S0.take 100 = S) (y : Int) (T0 T : List UInt8) (hT : T0.take 100 = T) (hs0 : ¬ S0.length ≤ 100) (ht0 : T0.length ≤ 100) (w : World) (hG : G a w) (hM : ∀ W, Ext w W → Calls Tryd.prog 21 #[.int .i64 b, .slice A n c] W (fun e w' => e = .returned (.tuple #[.pointer none, .bool false]) ∧ Ext W w')) :
    Calls Tryd.prog 7 #[.int .i64 b, .slice A n c, .int .i64 x, .string ⟨S0.toArray⟩, .int .i64 y, .string ⟨T0.toArray⟩] w fun e w' => e = .returned (.bool true) ∧ Ext w w' := by
  have SH := Lib.hid (shown_any (a := a) w hG)
  have H := Lib.hid (fun W (hW : Ext w W) => hG.ext hW)
  have M := Lib.hid hM
  have hs1 : ¬ (S0.length : Int) ≤ 100 := by omega
  have hsx : ByteArray.extract ⟨S0.toArray⟩ 0 100 = ⟨S.toArray⟩ := by rw [← hS]; exact extract_take S0 100
  have hsz : (⟨S.toArray⟩ : ByteArray).size = S.length := by simp [ByteArray.size]
  have ht1 : (T0.length : Int) ≤ 100 := by omega
  have htx : ByteArray.extract ⟨T0.toArray⟩ 0 T0.length = ⟨T.toArray⟩ := by rw [← hT]; exact extract_allN T0 100 ht0
  have htz : (⟨T.toArray⟩ : ByteArray).size = T.length := by simp [ByteArray.size]
  clear hS hT hs0 ht0
  clear hG hM
  go_enter Tryd.func7, Tryd.ntmps7
  go_wp2_with (first
    | (go_at_call 10; refine (SH.out).mono ?_; rintro e w1 ⟨rfl, hX⟩)
    | (go_at_call 21; refine (M.out _ hX).mono ?_; rintro e w2 ⟨rfl, h2⟩; replace hX := Ext.trans hX h2; clear h2))
  go_ret
  exact ⟨rfl, hX⟩
set_option maxHeartbeats 4000000 in
set_option maxRecDepth 100000 in
theorem apart_e010 (L : List UInt8) (N : Nat) (hN : L.length = N) (hL : N ≤ 131072) (b : Int) (A : Option Addr) (n c : Nat) (x : Int) (S0 S : List UInt8) (hS : S0.take 100 = S) (y : Int) (T0 T : List UInt8) (hT : T0.take 100 = T) (hs0 : ¬ S0.length ≤ 100) (ht0 : T0.length ≤ 100) (x0 : x < 0) (w : World) (hG : G a w) (hM : ∀ W, Ext w W → Calls Tryd.prog 21 #[.int .i64 b, .slice A n c] W (MadeP W L)) :
    Calls Tryd.prog 7 #[.int .i64 b, .slice A n c, .int .i64 x, .string ⟨S0.toArray⟩, .int .i64 y, .string ⟨T0.toArray⟩] w fun e w' => e = .returned (.bool true) ∧ Ext w w' := by
  have SH := Lib.hid (shown_any (a := a) w hG)
  have H := Lib.hid (fun W (hW : Ext w W) => hG.ext hW)
  have M := Lib.hid hM
  have hs1 : ¬ (S0.length : Int) ≤ 100 := by omega
  have hsx : ByteArray.extract ⟨S0.toArray⟩ 0 100 = ⟨S.toArray⟩ := by rw [← hS]; exact extract_take S0 100
  have hsz : (⟨S.toArray⟩ : ByteArray).size = S.length := by simp [ByteArray.size]
  have ht1 : (T0.length : Int) ≤ 100 := by omega
  have htx : ByteArray.extract ⟨T0.toArray⟩ 0 T0.length = ⟨T.toArray⟩ := by rw [← hT]; exact extract_allN T0 100 ht0
  have htz : (⟨T.toArray⟩ : ByteArray).size = T.length := by simp [ByteArray.size]
  have hSl : S.length ≤ 100 := by rw [← hS]; simp; omega
  have hTl : T.length ≤ 100 := by rw [← hT]; simp; omega
  have hN0 : (N : Int) ≤ 131072 := by omega
  have hn := Lib.hid (show (L.length : Int) = (N : Nat) by omega)
  clear hS hT hs0 ht0 hN
  clear hG hM
  go_enter Tryd.func7, Tryd.ntmps7
  go_wp2_with (first
    | (go_at_call 10; refine (SH.out).mono ?_; rintro e w1 ⟨rfl, hX⟩)
    | (go_at_call 21; have zz := AR1; refine (M.out _ hX).mono ?_; rintro e w3 ⟨p2, g2, rfl, hp, hg, h2, hA⟩; have HP2 := Lib.hid (And.intro (Nat.le_trans hX.size hp) (Nat.le_trans hX.size hg)); have D := Lib.hid (show (p ≠ g2 ∧ g ≠ g2) ∧ (p2 ≠ g ∧ g2 ≠ g) from by have := AR1.out.p.lt; have := AR1.out.b.lt; omega); replace hX := Ext.trans hX h2; replace AR1 := Lib.hid (AR1.out.ext h2); have AR2 := Lib.hid hA; clear h2 hp hg hA zz)
    | (go_at_call 21; refine (M.out _ hX).mono ?_; rintro e w2 ⟨p, g, rfl, hp, hg, h2, hA⟩; have HP := Lib.hid (And.intro (Nat.le_trans hX.size hp) (Nat.le_trans hX.size hg)); replace hX := Ext.trans hX h2; have AR1 := Lib.hid hA; clear h2 hp hg hA)
    | (go_at_call 14; (with_reducible refine (size_is (a := a) p g _ _ hn.out _ (H.out _ hX) AR1.out).mono ?_); rintro e w4 ⟨rfl, h4⟩; replace hX := Ext.trans hX h4; replace AR1 := Lib.hid (AR1.out.ext h4); replace AR2 := Lib.hid (AR2.out.ext h4); clear h4))
  go_ret
  exact ⟨rfl, hX⟩
set_option maxHeartbeats 4000000 in
set_option maxRecDepth 100000 in
theorem apart_e110 (L : List UInt8) (N : Nat) (hN : L.length = N) (hL : N ≤ 131072) (b : Int) (A : Option Addr) (n c : Nat) (x : Int) (S0 S : List UInt8) (hS : S0.take 100 = S) (y : Int) (T0 T : List UInt8) (hT : T0.take 100 = T) (hs0 : ¬ S0.length ≤ 100) (ht0 : T0.length ≤ 100) (x0 : 0 ≤ x) (y0 : y < 0) (w : World) (hG : G a w) (hM : ∀ W, Ext w W → Calls Tryd.prog 21 #[.int .i64 b, .slice A n c] W (MadeP W L)) :
    Calls Tryd.prog 7 #[.int .i64 b, .slice A n c, .int .i64 x, .string ⟨S0.toArray⟩, .int .i64 y, .string ⟨T0.toArray⟩] w fun e w' => e = .returned (.bool true) ∧ Ext w w' := by
  have SH := Lib.hid (shown_any (a := a) w hG)
  have H := Lib.hid (fun W (hW : Ext w W) => hG.ext hW)
  have M := Lib.hid hM
  have hs1 : ¬ (S0.length : Int) ≤ 100 := by omega
  have hsx : ByteArray.extract ⟨S0.toArray⟩ 0 100 = ⟨S.toArray⟩ := by rw [← hS]; exact extract_take S0 100
  have hsz : (⟨S.toArray⟩ : ByteArray).size = S.length := by simp [ByteArray.size]
  have ht1 : (T0.length : Int) ≤ 100 := by omega
  have htx : ByteArray.extract ⟨T0.toArray⟩ 0 T0.length = ⟨T.toArray⟩ := by rw [← hT]; exact extract_allN T0 100 ht0
  have htz : (⟨T.toArray⟩ : ByteArray).size = T.length := by simp [ByteArray.size]
  have hSl : S.length ≤ 100 := by rw [← hS]; simp; omega
  have hTl : T.length ≤ 100 := by rw [← hT]; simp; omega
  have hN0 : (N : Int) ≤ 131072 := by omega
  have hn := Lib.hid (show (L.length : Int) = (N : Nat) by omega)
  clear hS hT hs0 ht0 hN
  clear hG hM
  go_enter Tryd.func7, Tryd.ntmps7
  go_wp2_with (first
    | (go_at_call 10; refine (SH.out).mono ?_; rintro e w1 ⟨rfl, hX⟩)
    | (go_at_call 21; have zz := AR1; refine (M.out _ hX).mono ?_; rintro e w3 ⟨p2, g2, rfl, hp, hg, h2, hA⟩; have HP2 := Lib.hid (And.intro (Nat.le_trans hX.size hp) (Nat.le_trans hX.size hg)); have D := Lib.hid (show (p ≠ g2 ∧ g ≠ g2) ∧ (p2 ≠ g ∧ g2 ≠ g) from by have := AR1.out.p.lt; have := AR1.out.b.lt; omega); replace hX := Ext.trans hX h2; replace AR1 := Lib.hid (AR1.out.ext h2); have AR2 := Lib.hid hA; clear h2 hp hg hA zz)
    | (go_at_call 21; refine (M.out _ hX).mono ?_; rintro e w2 ⟨p, g, rfl, hp, hg, h2, hA⟩; have HP := Lib.hid (And.intro (Nat.le_trans hX.size hp) (Nat.le_trans hX.size hg)); replace hX := Ext.trans hX h2; have AR1 := Lib.hid hA; clear h2 hp hg hA)
    | (go_at_call 14; (with_reducible refine (size_is (a := a) p g _ _ hn.out _ (H.out _ hX) AR1.out).mono ?_); rintro e w4 ⟨rfl, h4⟩; replace hX := Ext.trans hX h4; replace AR1 := Lib.hid (AR1.out.ext h4); replace AR2 := Lib.hid (AR2.out.ext h4); clear h4))
  go_ret
  exact ⟨rfl, hX⟩
set_option maxHeartbeats 4000000 in
set_option maxRecDepth 100000 in
theorem apart_e210 (L : List UInt8) (N : Nat) (hN : L.length = N) (hL : N ≤ 131072) (b : Int) (A : Option Addr) (n c : Nat) (x : Int) (S0 S : List UInt8) (hS : S0.take 100 = S) (y : Int) (T0 T : List UInt8) (hT : T0.take 100 = T) (hs0 : ¬ S0.length ≤ 100) (ht0 : T0.length ≤ 100) (x0 : 0 ≤ x) (y0 : 0 ≤ y) (x1 : (N : Int) < x) (w : World) (hG : G a w) (hM : ∀ W, Ext w W → Calls Tryd.prog 21 #[.int .i64 b, .slice A n c] W (MadeP W L)) :
    Calls Tryd.prog 7 #[.int .i64 b, .slice A n c, .int .i64 x, .string ⟨S0.toArray⟩, .int .i64 y, .string ⟨T0.toArray⟩] w fun e w' => e = .returned (.bool true) ∧ Ext w w' := by
  have SH := Lib.hid (shown_any (a := a) w hG)
  have H := Lib.hid (fun W (hW : Ext w W) => hG.ext hW)
  have M := Lib.hid hM
  have hs1 : ¬ (S0.length : Int) ≤ 100 := by omega
  have hsx : ByteArray.extract ⟨S0.toArray⟩ 0 100 = ⟨S.toArray⟩ := by rw [← hS]; exact extract_take S0 100
  have hsz : (⟨S.toArray⟩ : ByteArray).size = S.length := by simp [ByteArray.size]
  have ht1 : (T0.length : Int) ≤ 100 := by omega
  have htx : ByteArray.extract ⟨T0.toArray⟩ 0 T0.length = ⟨T.toArray⟩ := by rw [← hT]; exact extract_allN T0 100 ht0
  have htz : (⟨T.toArray⟩ : ByteArray).size = T.length := by simp [ByteArray.size]
  have hSl : S.length ≤ 100 := by rw [← hS]; simp; omega
  have hTl : T.length ≤ 100 := by rw [← hT]; simp; omega
  have hN0 : (N : Int) ≤ 131072 := by omega
  have hn := Lib.hid (show (L.length : Int) = (N : Nat) by omega)
  clear hS hT hs0 ht0 hN
  clear hG hM
  go_enter Tryd.func7, Tryd.ntmps7
  go_wp2_with (first
    | (go_at_call 10; refine (SH.out).mono ?_; rintro e w1 ⟨rfl, hX⟩)
    | (go_at_call 21; have zz := AR1; refine (M.out _ hX).mono ?_; rintro e w3 ⟨p2, g2, rfl, hp, hg, h2, hA⟩; have HP2 := Lib.hid (And.intro (Nat.le_trans hX.size hp) (Nat.le_trans hX.size hg)); have D := Lib.hid (show (p ≠ g2 ∧ g ≠ g2) ∧ (p2 ≠ g ∧ g2 ≠ g) from by have := AR1.out.p.lt; have := AR1.out.b.lt; omega); replace hX := Ext.trans hX h2; replace AR1 := Lib.hid (AR1.out.ext h2); have AR2 := Lib.hid hA; clear h2 hp hg hA zz)
    | (go_at_call 21; refine (M.out _ hX).mono ?_; rintro e w2 ⟨p, g, rfl, hp, hg, h2, hA⟩; have HP := Lib.hid (And.intro (Nat.le_trans hX.size hp) (Nat.le_trans hX.size hg)); replace hX := Ext.trans hX h2; have AR1 := Lib.hid hA; clear h2 hp hg hA)
    | (go_at_call 14; (with_reducible refine (size_is (a := a) p g _ _ hn.out _ (H.out _ hX) AR1.out).mono ?_); rintro e w4 ⟨rfl, h4⟩; replace hX := Ext.trans hX h4; replace AR1 := Lib.hid (AR1.out.ext h4); replace AR2 := Lib.hid (AR2.out.ext h4); clear h4))
  go_ret
  exact ⟨rfl, hX⟩
set_option maxHeartbeats 4000000 in
set_option maxRecDepth 100000 in
theorem apart_e310 (L : List UInt8) (N : Nat) (hN : L.length = N) (hL : N ≤ 131072) (b : Int) (A : Option Addr) (n c : Nat) (x : Int) (S0 S : List UInt8) (hS : S0.take 100 = S) (y : Int) (T0 T : List UInt8) (hT : T0.take 100 = T) (hs0 : ¬ S0.length ≤ 100) (ht0 : T0.length ≤ 100) (x0 : 0 ≤ x) (y0 : 0 ≤ y) (x1 : x ≤ N) (y1 : (N : Int) < y) (w : World) (hG : G a w) (hM : ∀ W, Ext w W → Calls Tryd.prog 21 #[.int .i64 b, .slice A n c] W (MadeP W L)) :
    Calls Tryd.prog 7 #[.int .i64 b, .slice A n c, .int .i64 x, .string ⟨S0.toArray⟩, .int .i64 y, .string ⟨T0.toArray⟩] w fun e w' => e = .returned (.bool true) ∧ Ext w w' := by
  have SH := Lib.hid (shown_any (a := a) w hG)
  have H := Lib.hid (fun W (hW : Ext w W) => hG.ext hW)
  have M := Lib.hid hM
  have hs1 : ¬ (S0.length : Int) ≤ 100 := by omega
  have hsx : ByteArray.extract ⟨S0.toArray⟩ 0 100 = ⟨S.toArray⟩ := by rw [← hS]; exact extract_take S0 100
  have hsz : (⟨S.toArray⟩ : ByteArray).size = S.length := by simp [ByteArray.size]
  have ht1 : (T0.length : Int) ≤ 100 := by omega
  have htx : ByteArray.extract ⟨T0.toArray⟩ 0 T0.length = ⟨T.toArray⟩ := by rw [← hT]; exact extract_allN T0 100 ht0
  have htz : (⟨T.toArray⟩ : ByteArray).size = T.length := by simp [ByteArray.size]
  have hSl : S.length ≤ 100 := by rw [← hS]; simp; omega
  have hTl : T.length ≤ 100 := by rw [← hT]; simp; omega
  have hN0 : (N : Int) ≤ 131072 := by omega
  have hn := Lib.hid (show (L.length : Int) = (N : Nat) by omega)
  clear hS hT hs0 ht0 hN
  clear hG hM
  go_enter Tryd.func7, Tryd.ntmps7
  go_wp2_with (first
    | (go_at_call 10; refine (SH.out).mono ?_; rintro e w1 ⟨rfl, hX⟩)
    | (go_at_call 21; have zz := AR1; refine (M.out _ hX).mono ?_; rintro e w3 ⟨p2, g2, rfl, hp, hg, h2, hA⟩; have HP2 := Lib.hid (And.intro (Nat.le_trans hX.size hp) (Nat.le_trans hX.size hg)); have D := Lib.hid (show (p ≠ g2 ∧ g ≠ g2) ∧ (p2 ≠ g ∧ g2 ≠ g) from by have := AR1.out.p.lt; have := AR1.out.b.lt; omega); replace hX := Ext.trans hX h2; replace AR1 := Lib.hid (AR1.out.ext h2); have AR2 := Lib.hid hA; clear h2 hp hg hA zz)
    | (go_at_call 21; refine (M.out _ hX).mono ?_; rintro e w2 ⟨p, g, rfl, hp, hg, h2, hA⟩; have HP := Lib.hid (And.intro (Nat.le_trans hX.size hp) (Nat.le_trans hX.size hg)); replace hX := Ext.trans hX h2; have AR1 := Lib.hid hA; clear h2 hp hg hA)
    | (go_at_call 14; (with_reducible refine (size_is (a := a) p g _ _ hn.out _ (H.out _ hX) AR1.out).mono ?_); rintro e w4 ⟨rfl, h4⟩; replace hX := Ext.trans hX h4; replace AR1 := Lib.hid (AR1.out.ext h4); replace AR2 := Lib.hid (AR2.out.ext h4); clear h4))
  go_ret
  exact ⟨rfl, hX⟩
set_option maxHeartbeats 4000000 in
set_option maxRecDepth 100000 in
theorem apart_e410 (L : List UInt8) (N : Nat) (hN : L.length = N) (hL : N ≤ 131072) (b : Int) (A : Option Addr) (n c : Nat) (x : Int) (S0 S : List UInt8) (hS : S0.take 100 = S) (y : Int) (T0 T : List UInt8) (hT : T0.take 100 = T) (hs0 : ¬ S0.length ≤ 100) (ht0 : T0.length ≤ 100) (x0 : 0 ≤ x) (y0 : 0 ≤ y) (x1 : x ≤ N) (y1 : y ≤ N) (m1 : y < x + S.length) (m2 : x < y + T.length) (w : World) (hG : G a w) (hM : ∀ W, Ext w W → Calls Tryd.prog 21 #[.int .i64 b, .slice A n c] W (MadeP W L)) :
    Calls Tryd.prog 7 #[.int .i64 b, .slice A n c, .int .i64 x, .string ⟨S0.toArray⟩, .int .i64 y, .string ⟨T0.toArray⟩] w fun e w' => e = .returned (.bool true) ∧ Ext w w' := by
  have SH := Lib.hid (shown_any (a := a) w hG)
  have H := Lib.hid (fun W (hW : Ext w W) => hG.ext hW)
  have M := Lib.hid hM
  have hs1 : ¬ (S0.length : Int) ≤ 100 := by omega
  have hsx : ByteArray.extract ⟨S0.toArray⟩ 0 100 = ⟨S.toArray⟩ := by rw [← hS]; exact extract_take S0 100
  have hsz : (⟨S.toArray⟩ : ByteArray).size = S.length := by simp [ByteArray.size]
  have ht1 : (T0.length : Int) ≤ 100 := by omega
  have htx : ByteArray.extract ⟨T0.toArray⟩ 0 T0.length = ⟨T.toArray⟩ := by rw [← hT]; exact extract_allN T0 100 ht0
  have htz : (⟨T.toArray⟩ : ByteArray).size = T.length := by simp [ByteArray.size]
  have hSl : S.length ≤ 100 := by rw [← hS]; simp; omega
  have hTl : T.length ≤ 100 := by rw [← hT]; simp; omega
  have hN0 : (N : Int) ≤ 131072 := by omega
  have hn := Lib.hid (show (L.length : Int) = (N : Nat) by omega)
  clear hS hT hs0 ht0 hN
  clear hG hM
  go_enter Tryd.func7, Tryd.ntmps7
  go_wp2_with (first
    | (go_at_call 10; refine (SH.out).mono ?_; rintro e w1 ⟨rfl, hX⟩)
    | (go_at_call 21; have zz := AR1; refine (M.out _ hX).mono ?_; rintro e w3 ⟨p2, g2, rfl, hp, hg, h2, hA⟩; have HP2 := Lib.hid (And.intro (Nat.le_trans hX.size hp) (Nat.le_trans hX.size hg)); have D := Lib.hid (show (p ≠ g2 ∧ g ≠ g2) ∧ (p2 ≠ g ∧ g2 ≠ g) from by have := AR1.out.p.lt; have := AR1.out.b.lt; omega); replace hX := Ext.trans hX h2; replace AR1 := Lib.hid (AR1.out.ext h2); have AR2 := Lib.hid hA; clear h2 hp hg hA zz)
    | (go_at_call 21; refine (M.out _ hX).mono ?_; rintro e w2 ⟨p, g, rfl, hp, hg, h2, hA⟩; have HP := Lib.hid (And.intro (Nat.le_trans hX.size hp) (Nat.le_trans hX.size hg)); replace hX := Ext.trans hX h2; have AR1 := Lib.hid hA; clear h2 hp hg hA)
    | (go_at_call 14; (with_reducible refine (size_is (a := a) p g _ _ hn.out _ (H.out _ hX) AR1.out).mono ?_); rintro e w4 ⟨rfl, h4⟩; replace hX := Ext.trans hX h4; replace AR1 := Lib.hid (AR1.out.ext h4); replace AR2 := Lib.hid (AR2.out.ext h4); clear h4))
  go_ret
  exact ⟨rfl, hX⟩
set_option maxHeartbeats 4000000 in
set_option maxRecDepth 100000 in
theorem apart_none11 (b : Int) (A : Option Addr) (n c : Nat) (x : Int) (S0 S : List UInt8) (hS : S0.take 100 = S) (y : Int) (T0 T : List UInt8) (hT : T0.take 100 = T) (hs0 : ¬ S0.length ≤ 100) (ht0 : ¬ T0.length ≤ 100) (w : World) (hG : G a w) (hM : ∀ W, Ext w W → Calls Tryd.prog 21 #[.int .i64 b, .slice A n c] W (fun e w' => e = .returned (.tuple #[.pointer none, .bool false]) ∧ Ext W w')) :
    Calls Tryd.prog 7 #[.int .i64 b, .slice A n c, .int .i64 x, .string ⟨S0.toArray⟩, .int .i64 y, .string ⟨T0.toArray⟩] w fun e w' => e = .returned (.bool true) ∧ Ext w w' := by
  have SH := Lib.hid (shown_any (a := a) w hG)
  have H := Lib.hid (fun W (hW : Ext w W) => hG.ext hW)
  have M := Lib.hid hM
  have hs1 : ¬ (S0.length : Int) ≤ 100 := by omega
  have hsx : ByteArray.extract ⟨S0.toArray⟩ 0 100 = ⟨S.toArray⟩ := by rw [← hS]; exact extract_take S0 100
  have hsz : (⟨S.toArray⟩ : ByteArray).size = S.length := by simp [ByteArray.size]
  have ht1 : ¬ (T0.length : Int) ≤ 100 := by omega
  have htx : ByteArray.extract ⟨T0.toArray⟩ 0 100 = ⟨T.toArray⟩ := by rw [← hT]; exact extract_take T0 100
  have htz : (⟨T.toArray⟩ : ByteArray).size = T.length := by simp [ByteArray.size]
  clear hS hT hs0 ht0
  clear hG hM
  go_enter Tryd.func7, Tryd.ntmps7
  go_wp2_with (first
    | (go_at_call 10; refine (SH.out).mono ?_; rintro e w1 ⟨rfl, hX⟩)
    | (go_at_call 21; refine (M.out _ hX).mono ?_; rintro e w2 ⟨rfl, h2⟩; replace hX := Ext.trans hX h2; clear h2))
  go_ret
  exact ⟨rfl, hX⟩
set_option maxHeartbeats 4000000 in
set_option maxRecDepth 100000 in
theorem apart_e011 (L : List UInt8) (N : Nat) (hN : L.length = N) (hL : N ≤ 131072) (b : Int) (A : Option Addr) (n c : Nat) (x : Int) (S0 S : List UInt8) (hS : S0.take 100 = S) (y : Int) (T0 T : List UInt8) (hT : T0.take 100 = T) (hs0 : ¬ S0.length ≤ 100) (ht0 : ¬ T0.length ≤ 100) (x0 : x < 0) (w : World) (hG : G a w) (hM : ∀ W, Ext w W → Calls Tryd.prog 21 #[.int .i64 b, .slice A n c] W (MadeP W L)) :
    Calls Tryd.prog 7 #[.int .i64 b, .slice A n c, .int .i64 x, .string ⟨S0.toArray⟩, .int .i64 y, .string ⟨T0.toArray⟩] w fun e w' => e = .returned (.bool true) ∧ Ext w w' := by
  have SH := Lib.hid (shown_any (a := a) w hG)
  have H := Lib.hid (fun W (hW : Ext w W) => hG.ext hW)
  have M := Lib.hid hM
  have hs1 : ¬ (S0.length : Int) ≤ 100 := by omega
  have hsx : ByteArray.extract ⟨S0.toArray⟩ 0 100 = ⟨S.toArray⟩ := by rw [← hS]; exact extract_take S0 100
  have hsz : (⟨S.toArray⟩ : ByteArray).size = S.length := by simp [ByteArray.size]
  have ht1 : ¬ (T0.length : Int) ≤ 100 := by omega
  have htx : ByteArray.extract ⟨T0.toArray⟩ 0 100 = ⟨T.toArray⟩ := by rw [← hT]; exact extract_take T0 100
  have htz : (⟨T.toArray⟩ : ByteArray).size = T.length := by simp [ByteArray.size]
  have hSl : S.length ≤ 100 := by rw [← hS]; simp; omega
  have hTl : T.length ≤ 100 := by rw [← hT]; simp; omega
  have hN0 : (N : Int) ≤ 131072 := by omega
  have hn := Lib.hid (show (L.length : Int) = (N : Nat) by omega)
  clear hS hT hs0 ht0 hN
  clear hG hM
  go_enter Tryd.func7, Tryd.ntmps7
  go_wp2_with (first
    | (go_at_call 10; refine (SH.out).mono ?_; rintro e w1 ⟨rfl, hX⟩)
    | (go_at_call 21; have zz := AR1; refine (M.out _ hX).mono ?_; rintro e w3 ⟨p2, g2, rfl, hp, hg, h2, hA⟩; have HP2 := Lib.hid (And.intro (Nat.le_trans hX.size hp) (Nat.le_trans hX.size hg)); have D := Lib.hid (show (p ≠ g2 ∧ g ≠ g2) ∧ (p2 ≠ g ∧ g2 ≠ g) from by have := AR1.out.p.lt; have := AR1.out.b.lt; omega); replace hX := Ext.trans hX h2; replace AR1 := Lib.hid (AR1.out.ext h2); have AR2 := Lib.hid hA; clear h2 hp hg hA zz)
    | (go_at_call 21; refine (M.out _ hX).mono ?_; rintro e w2 ⟨p, g, rfl, hp, hg, h2, hA⟩; have HP := Lib.hid (And.intro (Nat.le_trans hX.size hp) (Nat.le_trans hX.size hg)); replace hX := Ext.trans hX h2; have AR1 := Lib.hid hA; clear h2 hp hg hA)
    | (go_at_call 14; (with_reducible refine (size_is (a := a) p g _ _ hn.out _ (H.out _ hX) AR1.out).mono ?_); rintro e w4 ⟨rfl, h4⟩; replace hX := Ext.trans hX h4; replace AR1 := Lib.hid (AR1.out.ext h4); replace AR2 := Lib.hid (AR2.out.ext h4); clear h4))
  go_ret
  exact ⟨rfl, hX⟩
set_option maxHeartbeats 4000000 in
set_option maxRecDepth 100000 in
theorem apart_e111 (L : List UInt8) (N : Nat) (hN : L.length = N) (hL : N ≤ 131072) (b : Int) (A : Option Addr) (n c : Nat) (x : Int) (S0 S : List UInt8) (hS : S0.take 100 = S) (y : Int) (T0 T : List UInt8) (hT : T0.take 100 = T) (hs0 : ¬ S0.length ≤ 100) (ht0 : ¬ T0.length ≤ 100) (x0 : 0 ≤ x) (y0 : y < 0) (w : World) (hG : G a w) (hM : ∀ W, Ext w W → Calls Tryd.prog 21 #[.int .i64 b, .slice A n c] W (MadeP W L)) :
    Calls Tryd.prog 7 #[.int .i64 b, .slice A n c, .int .i64 x, .string ⟨S0.toArray⟩, .int .i64 y, .string ⟨T0.toArray⟩] w fun e w' => e = .returned (.bool true) ∧ Ext w w' := by
  have SH := Lib.hid (shown_any (a := a) w hG)
  have H := Lib.hid (fun W (hW : Ext w W) => hG.ext hW)
  have M := Lib.hid hM
  have hs1 : ¬ (S0.length : Int) ≤ 100 := by omega
  have hsx : ByteArray.extract ⟨S0.toArray⟩ 0 100 = ⟨S.toArray⟩ := by rw [← hS]; exact extract_take S0 100
  have hsz : (⟨S.toArray⟩ : ByteArray).size = S.length := by simp [ByteArray.size]
  have ht1 : ¬ (T0.length : Int) ≤ 100 := by omega
  have htx : ByteArray.extract ⟨T0.toArray⟩ 0 100 = ⟨T.toArray⟩ := by rw [← hT]; exact extract_take T0 100
  have htz : (⟨T.toArray⟩ : ByteArray).size = T.length := by simp [ByteArray.size]
  have hSl : S.length ≤ 100 := by rw [← hS]; simp; omega
  have hTl : T.length ≤ 100 := by rw [← hT]; simp; omega
  have hN0 : (N : Int) ≤ 131072 := by omega
  have hn := Lib.hid (show (L.length : Int) = (N : Nat) by omega)
  clear hS hT hs0 ht0 hN
  clear hG hM
  go_enter Tryd.func7, Tryd.ntmps7
  go_wp2_with (first
    | (go_at_call 10; refine (SH.out).mono ?_; rintro e w1 ⟨rfl, hX⟩)
    | (go_at_call 21; have zz := AR1; refine (M.out _ hX).mono ?_; rintro e w3 ⟨p2, g2, rfl, hp, hg, h2, hA⟩; have HP2 := Lib.hid (And.intro (Nat.le_trans hX.size hp) (Nat.le_trans hX.size hg)); have D := Lib.hid (show (p ≠ g2 ∧ g ≠ g2) ∧ (p2 ≠ g ∧ g2 ≠ g) from by have := AR1.out.p.lt; have := AR1.out.b.lt; omega); replace hX := Ext.trans hX h2; replace AR1 := Lib.hid (AR1.out.ext h2); have AR2 := Lib.hid hA; clear h2 hp hg hA zz)
    | (go_at_call 21; refine (M.out _ hX).mono ?_; rintro e w2 ⟨p, g, rfl, hp, hg, h2, hA⟩; have HP := Lib.hid (And.intro (Nat.le_trans hX.size hp) (Nat.le_trans hX.size hg)); replace hX := Ext.trans hX h2; have AR1 := Lib.hid hA; clear h2 hp hg hA)
    | (go_at_call 14; (with_reducible refine (size_is (a := a) p g _ _ hn.out _ (H.out _ hX) AR1.out).mono ?_); rintro e w4 ⟨rfl, h4⟩; replace hX := Ext.trans hX h4; replace AR1 := Lib.hid (AR1.out.ext h4); replace AR2 := Lib.hid (AR2.out.ext h4); clear h4))
  go_ret
  exact ⟨rfl, hX⟩
set_option maxHeartbeats 4000000 in
set_option maxRecDepth 100000 in
theorem apart_e211 (L : List UInt8) (N : Nat) (hN : L.length = N) (hL : N ≤ 131072) (b : Int) (A : Option Addr) (n c : Nat) (x : Int) (S0 S : List UInt8) (hS : S0.take 100 = S) (y : Int) (T0 T : List UInt8) (hT : T0.take 100 = T) (hs0 : ¬ S0.length ≤ 100) (ht0 : ¬ T0.length ≤ 100) (x0 : 0 ≤ x) (y0 : 0 ≤ y) (x1 : (N : Int) < x) (w : World) (hG : G a w) (hM : ∀ W, Ext w W → Calls Tryd.prog 21 #[.int .i64 b, .slice A n c] W (MadeP W L)) :
    Calls Tryd.prog 7 #[.int .i64 b, .slice A n c, .int .i64 x, .string ⟨S0.toArray⟩, .int .i64 y, .string ⟨T0.toArray⟩] w fun e w' => e = .returned (.bool true) ∧ Ext w w' := by
  have SH := Lib.hid (shown_any (a := a) w hG)
  have H := Lib.hid (fun W (hW : Ext w W) => hG.ext hW)
  have M := Lib.hid hM
  have hs1 : ¬ (S0.length : Int) ≤ 100 := by omega
  have hsx : ByteArray.extract ⟨S0.toArray⟩ 0 100 = ⟨S.toArray⟩ := by rw [← hS]; exact extract_take S0 100
  have hsz : (⟨S.toArray⟩ : ByteArray).size = S.length := by simp [ByteArray.size]
  have ht1 : ¬ (T0.length : Int) ≤ 100 := by omega
  have htx : ByteArray.extract ⟨T0.toArray⟩ 0 100 = ⟨T.toArray⟩ := by rw [← hT]; exact extract_take T0 100
  have htz : (⟨T.toArray⟩ : ByteArray).size = T.length := by simp [ByteArray.size]
  have hSl : S.length ≤ 100 := by rw [← hS]; simp; omega
  have hTl : T.length ≤ 100 := by rw [← hT]; simp; omega
  have hN0 : (N : Int) ≤ 131072 := by omega
  have hn := Lib.hid (show (L.length : Int) = (N : Nat) by omega)
  clear hS hT hs0 ht0 hN
  clear hG hM
  go_enter Tryd.func7, Tryd.ntmps7
  go_wp2_with (first
    | (go_at_call 10; refine (SH.out).mono ?_; rintro e w1 ⟨rfl, hX⟩)
    | (go_at_call 21; have zz := AR1; refine (M.out _ hX).mono ?_; rintro e w3 ⟨p2, g2, rfl, hp, hg, h2, hA⟩; have HP2 := Lib.hid (And.intro (Nat.le_trans hX.size hp) (Nat.le_trans hX.size hg)); have D := Lib.hid (show (p ≠ g2 ∧ g ≠ g2) ∧ (p2 ≠ g ∧ g2 ≠ g) from by have := AR1.out.p.lt; have := AR1.out.b.lt; omega); replace hX := Ext.trans hX h2; replace AR1 := Lib.hid (AR1.out.ext h2); have AR2 := Lib.hid hA; clear h2 hp hg hA zz)
    | (go_at_call 21; refine (M.out _ hX).mono ?_; rintro e w2 ⟨p, g, rfl, hp, hg, h2, hA⟩; have HP := Lib.hid (And.intro (Nat.le_trans hX.size hp) (Nat.le_trans hX.size hg)); replace hX := Ext.trans hX h2; have AR1 := Lib.hid hA; clear h2 hp hg hA)
    | (go_at_call 14; (with_reducible refine (size_is (a := a) p g _ _ hn.out _ (H.out _ hX) AR1.out).mono ?_); rintro e w4 ⟨rfl, h4⟩; replace hX := Ext.trans hX h4; replace AR1 := Lib.hid (AR1.out.ext h4); replace AR2 := Lib.hid (AR2.out.ext h4); clear h4))
  go_ret
  exact ⟨rfl, hX⟩
set_option maxHeartbeats 4000000 in
set_option maxRecDepth 100000 in
theorem apart_e311 (L : List UInt8) (N : Nat) (hN : L.length = N) (hL : N ≤ 131072) (b : Int) (A : Option Addr) (n c : Nat) (x : Int) (S0 S : List UInt8) (hS : S0.take 100 = S) (y : Int) (T0 T : List UInt8) (hT : T0.take 100 = T) (hs0 : ¬ S0.length ≤ 100) (ht0 : ¬ T0.length ≤ 100) (x0 : 0 ≤ x) (y0 : 0 ≤ y) (x1 : x ≤ N) (y1 : (N : Int) < y) (w : World) (hG : G a w) (hM : ∀ W, Ext w W → Calls Tryd.prog 21 #[.int .i64 b, .slice A n c] W (MadeP W L)) :
    Calls Tryd.prog 7 #[.int .i64 b, .slice A n c, .int .i64 x, .string ⟨S0.toArray⟩, .int .i64 y, .string ⟨T0.toArray⟩] w fun e w' => e = .returned (.bool true) ∧ Ext w w' := by
  have SH := Lib.hid (shown_any (a := a) w hG)
  have H := Lib.hid (fun W (hW : Ext w W) => hG.ext hW)
  have M := Lib.hid hM
  have hs1 : ¬ (S0.length : Int) ≤ 100 := by omega
  have hsx : ByteArray.extract ⟨S0.toArray⟩ 0 100 = ⟨S.toArray⟩ := by rw [← hS]; exact extract_take S0 100
  have hsz : (⟨S.toArray⟩ : ByteArray).size = S.length := by simp [ByteArray.size]
  have ht1 : ¬ (T0.length : Int) ≤ 100 := by omega
  have htx : ByteArray.extract ⟨T0.toArray⟩ 0 100 = ⟨T.toArray⟩ := by rw [← hT]; exact extract_take T0 100
  have htz : (⟨T.toArray⟩ : ByteArray).size = T.length := by simp [ByteArray.size]
  have hSl : S.length ≤ 100 := by rw [← hS]; simp; omega
  have hTl : T.length ≤ 100 := by rw [← hT]; simp; omega
  have hN0 : (N : Int) ≤ 131072 := by omega
  have hn := Lib.hid (show (L.length : Int) = (N : Nat) by omega)
  clear hS hT hs0 ht0 hN
  clear hG hM
  go_enter Tryd.func7, Tryd.ntmps7
  go_wp2_with (first
    | (go_at_call 10; refine (SH.out).mono ?_; rintro e w1 ⟨rfl, hX⟩)
    | (go_at_call 21; have zz := AR1; refine (M.out _ hX).mono ?_; rintro e w3 ⟨p2, g2, rfl, hp, hg, h2, hA⟩; have HP2 := Lib.hid (And.intro (Nat.le_trans hX.size hp) (Nat.le_trans hX.size hg)); have D := Lib.hid (show (p ≠ g2 ∧ g ≠ g2) ∧ (p2 ≠ g ∧ g2 ≠ g) from by have := AR1.out.p.lt; have := AR1.out.b.lt; omega); replace hX := Ext.trans hX h2; replace AR1 := Lib.hid (AR1.out.ext h2); have AR2 := Lib.hid hA; clear h2 hp hg hA zz)
    | (go_at_call 21; refine (M.out _ hX).mono ?_; rintro e w2 ⟨p, g, rfl, hp, hg, h2, hA⟩; have HP := Lib.hid (And.intro (Nat.le_trans hX.size hp) (Nat.le_trans hX.size hg)); replace hX := Ext.trans hX h2; have AR1 := Lib.hid hA; clear h2 hp hg hA)
    | (go_at_call 14; (with_reducible refine (size_is (a := a) p g _ _ hn.out _ (H.out _ hX) AR1.out).mono ?_); rintro e w4 ⟨rfl, h4⟩; replace hX := Ext.trans hX h4; replace AR1 := Lib.hid (AR1.out.ext h4); replace AR2 := Lib.hid (AR2.out.ext h4); clear h4))
  go_ret
  exact ⟨rfl, hX⟩
set_option maxHeartbeats 4000000 in
set_option maxRecDepth 100000 in
theorem apart_e411 (L : List UInt8) (N : Nat) (hN : L.length = N) (hL : N ≤ 131072) (b : Int) (A : Option Addr) (n c : Nat) (x : Int) (S0 S : List UInt8) (hS : S0.take 100 = S) (y : Int) (T0 T : List UInt8) (hT : T0.take 100 = T) (hs0 : ¬ S0.length ≤ 100) (ht0 : ¬ T0.length ≤ 100) (x0 : 0 ≤ x) (y0 : 0 ≤ y) (x1 : x ≤ N) (y1 : y ≤ N) (m1 : y < x + S.length) (m2 : x < y + T.length) (w : World) (hG : G a w) (hM : ∀ W, Ext w W → Calls Tryd.prog 21 #[.int .i64 b, .slice A n c] W (MadeP W L)) :
    Calls Tryd.prog 7 #[.int .i64 b, .slice A n c, .int .i64 x, .string ⟨S0.toArray⟩, .int .i64 y, .string ⟨T0.toArray⟩] w fun e w' => e = .returned (.bool true) ∧ Ext w w' := by
  have SH := Lib.hid (shown_any (a := a) w hG)
  have H := Lib.hid (fun W (hW : Ext w W) => hG.ext hW)
  have M := Lib.hid hM
  have hs1 : ¬ (S0.length : Int) ≤ 100 := by omega
  have hsx : ByteArray.extract ⟨S0.toArray⟩ 0 100 = ⟨S.toArray⟩ := by rw [← hS]; exact extract_take S0 100
  have hsz : (⟨S.toArray⟩ : ByteArray).size = S.length := by simp [ByteArray.size]
  have ht1 : ¬ (T0.length : Int) ≤ 100 := by omega
  have htx : ByteArray.extract ⟨T0.toArray⟩ 0 100 = ⟨T.toArray⟩ := by rw [← hT]; exact extract_take T0 100
  have htz : (⟨T.toArray⟩ : ByteArray).size = T.length := by simp [ByteArray.size]
  have hSl : S.length ≤ 100 := by rw [← hS]; simp; omega
  have hTl : T.length ≤ 100 := by rw [← hT]; simp; omega
  have hN0 : (N : Int) ≤ 131072 := by omega
  have hn := Lib.hid (show (L.length : Int) = (N : Nat) by omega)
  clear hS hT hs0 ht0 hN
  clear hG hM
  go_enter Tryd.func7, Tryd.ntmps7
  go_wp2_with (first
    | (go_at_call 10; refine (SH.out).mono ?_; rintro e w1 ⟨rfl, hX⟩)
    | (go_at_call 21; have zz := AR1; refine (M.out _ hX).mono ?_; rintro e w3 ⟨p2, g2, rfl, hp, hg, h2, hA⟩; have HP2 := Lib.hid (And.intro (Nat.le_trans hX.size hp) (Nat.le_trans hX.size hg)); have D := Lib.hid (show (p ≠ g2 ∧ g ≠ g2) ∧ (p2 ≠ g ∧ g2 ≠ g) from by have := AR1.out.p.lt; have := AR1.out.b.lt; omega); replace hX := Ext.trans hX h2; replace AR1 := Lib.hid (AR1.out.ext h2); have AR2 := Lib.hid hA; clear h2 hp hg hA zz)
    | (go_at_call 21; refine (M.out _ hX).mono ?_; rintro e w2 ⟨p, g, rfl, hp, hg, h2, hA⟩; have HP := Lib.hid (And.intro (Nat.le_trans hX.size hp) (Nat.le_trans hX.size hg)); replace hX := Ext.trans hX h2; have AR1 := Lib.hid hA; clear h2 hp hg hA)
    | (go_at_call 14; (with_reducible refine (size_is (a := a) p g _ _ hn.out _ (H.out _ hX) AR1.out).mono ?_); rintro e w4 ⟨rfl, h4⟩; replace hX := Ext.trans hX h4; replace AR1 := Lib.hid (AR1.out.ext h4); replace AR2 := Lib.hid (AR2.out.ext h4); clear h4))
  go_ret
  exact ⟨rfl, hX⟩
end
end Go.Proofs.YtmehoieijelncaaDoor
