/- selionlaw03.ArenaApart: the walk (made by gen_laws.py). -/
import Derived.Test.YtmehoieijelncaaDoorLawApart0
namespace Go.Proofs.YtmehoieijelncaaDoor
open Go.RowKit Go
section
variable {a : Nat → Addr}
set_option maxHeartbeats 4000000 in
set_option maxRecDepth 100000 in
theorem apart_m000 (L : List UInt8) (N : Nat) (hN : L.length = N) (hL : N ≤ 131072) (b : Int) (A : Option Addr) (n c : Nat) (x : Int) (S0 S : List UInt8) (hS : S0.take 100 = S) (y : Int) (T0 T : List UInt8) (hT : T0.take 100 = T) (hs0 : S0.length ≤ 100) (ht0 : T0.length ≤ 100) (x0 : 0 ≤ x) (y0 : 0 ≤ y) (x1 : x ≤ N) (y1 : y ≤ N) (m1 : x + S.length ≤ y) (w : World) (hG : G a w) (hM : ∀ W, Ext w W → Calls Tryd.prog 21 #[.int .i64 b, .slice A n c] W (MadeP W L)) :
    Calls Tryd.prog 7 #[.int .i64 b, .slice A n c, .int .i64 x, .string ⟨S0.toArray⟩, .int .i64 y, .string ⟨T0.toArray⟩] w fun e w' => e = .returned (.bool true) ∧ Ext w w' := by
  have SH := Lib.hid (shown_any (a := a) w hG)
  have H := Lib.hid (fun W (hW : Ext w W) => hG.ext hW)
  have M := Lib.hid hM
  have hs1 : (S0.length : Int) ≤ 100 := by omega
  have hsx : ByteArray.extract ⟨S0.toArray⟩ 0 S0.length = ⟨S.toArray⟩ := by rw [← hS]; exact extract_allN S0 100 hs0
  have hsz : (⟨S.toArray⟩ : ByteArray).size = S.length := by simp [ByteArray.size]
  have ht1 : (T0.length : Int) ≤ 100 := by omega
  have htx : ByteArray.extract ⟨T0.toArray⟩ 0 T0.length = ⟨T.toArray⟩ := by rw [← hT]; exact extract_allN T0 100 ht0
  have htz : (⟨T.toArray⟩ : ByteArray).size = T.length := by simp [ByteArray.size]
  have hSl : S.length ≤ 100 := by rw [← hS]; simp; omega
  have hTl : T.length ≤ 100 := by rw [← hT]; simp; omega
  have hN0 : (N : Int) ≤ 131072 := by omega
  have hn := Lib.hid (show (L.length : Int) = (N : Nat) by omega)
  obtain ⟨L1, hL1⟩ : ∃ K, wrL L x S = K := ⟨_, rfl⟩
  obtain ⟨M1, hM1⟩ : ∃ K, wrL L y T = K := ⟨_, rfl⟩
  obtain ⟨L2, hL2⟩ : ∃ K, wrL L1 y T = K := ⟨_, rfl⟩
  have hM2 : wrL M1 x S = L2 := by rw [← hL2, ← hL1, ← hM1]; exact (wr_comm L x y S T (by omega)).symm
  obtain ⟨E1, hE1⟩ : ∃ E, rdE L x S.length = E := ⟨_, rfl⟩
  obtain ⟨E2, hE2⟩ : ∃ E, rdE L y T.length = E := ⟨_, rfl⟩
  have hE3 : rdE L1 y T.length = E2 := by rw [← hE2]; exact rdE_len (by rw [← hL1]; exact wrL_len _ _ _) _ _
  have hE4 : rdE M1 x S.length = E1 := by rw [← hE1]; exact rdE_len (by rw [← hM1]; exact wrL_len _ _ _) _ _
  have hl2 : L2.length = N := by rw [← hL2, wrL_len, ← hL1, wrL_len, hN]
  have hn2 := Lib.hid (show (L2.length : Int) = (N : Nat) by omega)
  have K2 := Lib.hid (rd_all L2 N hl2)
  have KK := Lib.hid (And.intro (And.intro hE1 hL1) (And.intro (And.intro hE3 hL2) (And.intro (And.intro hE2 hM1) (And.intro hE4 hM2))))
  have hl3 : (L2.length : Int) = N := by omega
  clear hL1 hM1 hL2 hM2 hE1 hE2 hE3 hE4 hS hT hs0 ht0 hN
  clear hG hM
  go_enter Tryd.func7, Tryd.ntmps7
  go_wp2_with (first
    | (go_at_call 10; refine (SH.out).mono ?_; rintro e w1 ⟨rfl, hX⟩)
    | (go_at_call 21; have zz := AR1; refine (M.out _ hX).mono ?_; rintro e w3 ⟨p2, g2, rfl, hp, hg, h2, hA⟩; have HP2 := Lib.hid (And.intro (Nat.le_trans hX.size hp) (Nat.le_trans hX.size hg)); have D := Lib.hid (show (p ≠ g2 ∧ g ≠ g2) ∧ (p2 ≠ g ∧ g2 ≠ g) from by have := AR1.out.p.lt; have := AR1.out.b.lt; omega); replace hX := Ext.trans hX h2; replace AR1 := Lib.hid (AR1.out.ext h2); have AR2 := Lib.hid hA; clear h2 hp hg hA zz)
    | (go_at_call 21; refine (M.out _ hX).mono ?_; rintro e w2 ⟨p, g, rfl, hp, hg, h2, hA⟩; have HP := Lib.hid (And.intro (Nat.le_trans hX.size hp) (Nat.le_trans hX.size hg)); replace hX := Ext.trans hX h2; have AR1 := Lib.hid hA; clear h2 hp hg hA)
    | (go_at_call 14; (with_reducible refine (size_is (a := a) p g _ _ hn.out _ (H.out _ hX) AR1.out).mono ?_); rintro e w4 ⟨rfl, h4⟩; replace hX := Ext.trans hX h4; replace AR1 := Lib.hid (AR1.out.ext h4); replace AR2 := Lib.hid (AR2.out.ext h4); clear h4)
    | (go_at_call 14; (with_reducible refine (size_is (a := a) p g _ _ hn2.out _ (H.out _ hX) AR1.out).mono ?_); rintro e w4 ⟨rfl, h4⟩; replace hX := Ext.trans hX h4; replace AR1 := Lib.hid (AR1.out.ext h4); replace AR2 := Lib.hid (AR2.out.ext h4); clear h4)
    | (go_at_call 14; (with_reducible refine (size_is (a := a) p2 g2 _ _ hn2.out _ (H.out _ hX) AR2.out).mono ?_); rintro e w4 ⟨rfl, h4⟩; replace hX := Ext.trans hX h4; replace AR1 := Lib.hid (AR1.out.ext h4); replace AR2 := Lib.hid (AR2.out.ext h4); clear h4)
    | (go_at_call 22; (with_reducible refine (write_is (a := a) p g L x S _ _ KK.out.1.1 KK.out.1.2 _ (H.out _ hX) AR1.out).mono ?_); rintro e w4 ⟨rfl, hc, hA⟩; replace hX := Chg.below hX hc hX.size HP.out.2; replace AR1 := Lib.hid hA; replace AR2 := Lib.hid (AR2.out.other hc D.out.2.1 D.out.2.2); clear hc hA)
    | (go_at_call 22; (with_reducible refine (write_is (a := a) p g L1 y T _ _ KK.out.2.1.1 KK.out.2.1.2 _ (H.out _ hX) AR1.out).mono ?_); rintro e w4 ⟨rfl, hc, hA⟩; replace hX := Chg.below hX hc hX.size HP.out.2; replace AR1 := Lib.hid hA; replace AR2 := Lib.hid (AR2.out.other hc D.out.2.1 D.out.2.2); clear hc hA)
    | (go_at_call 22; (with_reducible refine (write_is (a := a) p2 g2 L y T _ _ KK.out.2.2.1.1 KK.out.2.2.1.2 _ (H.out _ hX) AR2.out).mono ?_); rintro e w4 ⟨rfl, hc, hA⟩; replace hX := Chg.below hX hc hX.size HP2.out.2; replace AR2 := Lib.hid hA; replace AR1 := Lib.hid (AR1.out.other hc D.out.1.1 D.out.1.2); clear hc hA)
    | (go_at_call 22; (with_reducible refine (write_is (a := a) p2 g2 M1 x S _ _ KK.out.2.2.2.1 KK.out.2.2.2.2 _ (H.out _ hX) AR2.out).mono ?_); rintro e w4 ⟨rfl, hc, hA⟩; replace hX := Chg.below hX hc hX.size HP2.out.2; replace AR2 := Lib.hid hA; replace AR1 := Lib.hid (AR1.out.other hc D.out.1.1 D.out.1.2); clear hc hA)
    | (go_at_call 18; (with_reducible refine (read_is (a := a) p g _ 0 (N : Nat) _ _ K2.out.1 K2.out.2 _ (H.out _ hX) AR1.out).mono ?_); rintro e w4 ⟨rfl, h4⟩; replace hX := Ext.trans hX h4; replace AR1 := Lib.hid (AR1.out.ext h4); replace AR2 := Lib.hid (AR2.out.ext h4); clear h4)
    | (go_at_call 18; (with_reducible refine (read_is (a := a) p2 g2 _ 0 (N : Nat) _ _ K2.out.1 K2.out.2 _ (H.out _ hX) AR2.out).mono ?_); rintro e w4 ⟨rfl, h4⟩; replace hX := Ext.trans hX h4; replace AR1 := Lib.hid (AR1.out.ext h4); replace AR2 := Lib.hid (AR2.out.ext h4); clear h4))
  go_ret
  exact ⟨rfl, hX⟩
set_option maxHeartbeats 4000000 in
set_option maxRecDepth 100000 in
theorem apart_m100 (L : List UInt8) (N : Nat) (hN : L.length = N) (hL : N ≤ 131072) (b : Int) (A : Option Addr) (n c : Nat) (x : Int) (S0 S : List UInt8) (hS : S0.take 100 = S) (y : Int) (T0 T : List UInt8) (hT : T0.take 100 = T) (hs0 : S0.length ≤ 100) (ht0 : T0.length ≤ 100) (x0 : 0 ≤ x) (y0 : 0 ≤ y) (x1 : x ≤ N) (y1 : y ≤ N) (m1 : y < x + S.length) (m2 : y + T.length ≤ x) (w : World) (hG : G a w) (hM : ∀ W, Ext w W → Calls Tryd.prog 21 #[.int .i64 b, .slice A n c] W (MadeP W L)) :
    Calls Tryd.prog 7 #[.int .i64 b, .slice A n c, .int .i64 x, .string ⟨S0.toArray⟩, .int .i64 y, .string ⟨T0.toArray⟩] w fun e w' => e = .returned (.bool true) ∧ Ext w w' := by
  have SH := Lib.hid (shown_any (a := a) w hG)
  have H := Lib.hid (fun W (hW : Ext w W) => hG.ext hW)
  have M := Lib.hid hM
  have hs1 : (S0.length : Int) ≤ 100 := by omega
  have hsx : ByteArray.extract ⟨S0.toArray⟩ 0 S0.length = ⟨S.toArray⟩ := by rw [← hS]; exact extract_allN S0 100 hs0
  have hsz : (⟨S.toArray⟩ : ByteArray).size = S.length := by simp [ByteArray.size]
  have ht1 : (T0.length : Int) ≤ 100 := by omega
  have htx : ByteArray.extract ⟨T0.toArray⟩ 0 T0.length = ⟨T.toArray⟩ := by rw [← hT]; exact extract_allN T0 100 ht0
  have htz : (⟨T.toArray⟩ : ByteArray).size = T.length := by simp [ByteArray.size]
  have hSl : S.length ≤ 100 := by rw [← hS]; simp; omega
  have hTl : T.length ≤ 100 := by rw [← hT]; simp; omega
  have hN0 : (N : Int) ≤ 131072 := by omega
  have hn := Lib.hid (show (L.length : Int) = (N : Nat) by omega)
  obtain ⟨L1, hL1⟩ : ∃ K, wrL L x S = K := ⟨_, rfl⟩
  obtain ⟨M1, hM1⟩ : ∃ K, wrL L y T = K := ⟨_, rfl⟩
  obtain ⟨L2, hL2⟩ : ∃ K, wrL L1 y T = K := ⟨_, rfl⟩
  have hM2 : wrL M1 x S = L2 := by rw [← hL2, ← hL1, ← hM1]; exact (wr_comm L x y S T (by omega)).symm
  obtain ⟨E1, hE1⟩ : ∃ E, rdE L x S.length = E := ⟨_, rfl⟩
  obtain ⟨E2, hE2⟩ : ∃ E, rdE L y T.length = E := ⟨_, rfl⟩
  have hE3 : rdE L1 y T.length = E2 := by rw [← hE2]; exact rdE_len (by rw [← hL1]; exact wrL_len _ _ _) _ _
  have hE4 : rdE M1 x S.length = E1 := by rw [← hE1]; exact rdE_len (by rw [← hM1]; exact wrL_len _ _ _) _ _
  have hl2 : L2.length = N := by rw [← hL2, wrL_len, ← hL1, wrL_len, hN]
  have hn2 := Lib.hid (show (L2.length : Int) = (N : Nat) by omega)
  have K2 := Lib.hid (rd_all L2 N hl2)
  have KK := Lib.hid (And.intro (And.intro hE1 hL1) (And.intro (And.intro hE3 hL2) (And.intro (And.intro hE2 hM1) (And.intro hE4 hM2))))
  have hl3 : (L2.length : Int) = N := by omega
  clear hL1 hM1 hL2 hM2 hE1 hE2 hE3 hE4 hS hT hs0 ht0 hN
  clear hG hM
  go_enter Tryd.func7, Tryd.ntmps7
  go_wp2_with (first
    | (go_at_call 10; refine (SH.out).mono ?_; rintro e w1 ⟨rfl, hX⟩)
    | (go_at_call 21; have zz := AR1; refine (M.out _ hX).mono ?_; rintro e w3 ⟨p2, g2, rfl, hp, hg, h2, hA⟩; have HP2 := Lib.hid (And.intro (Nat.le_trans hX.size hp) (Nat.le_trans hX.size hg)); have D := Lib.hid (show (p ≠ g2 ∧ g ≠ g2) ∧ (p2 ≠ g ∧ g2 ≠ g) from by have := AR1.out.p.lt; have := AR1.out.b.lt; omega); replace hX := Ext.trans hX h2; replace AR1 := Lib.hid (AR1.out.ext h2); have AR2 := Lib.hid hA; clear h2 hp hg hA zz)
    | (go_at_call 21; refine (M.out _ hX).mono ?_; rintro e w2 ⟨p, g, rfl, hp, hg, h2, hA⟩; have HP := Lib.hid (And.intro (Nat.le_trans hX.size hp) (Nat.le_trans hX.size hg)); replace hX := Ext.trans hX h2; have AR1 := Lib.hid hA; clear h2 hp hg hA)
    | (go_at_call 14; (with_reducible refine (size_is (a := a) p g _ _ hn.out _ (H.out _ hX) AR1.out).mono ?_); rintro e w4 ⟨rfl, h4⟩; replace hX := Ext.trans hX h4; replace AR1 := Lib.hid (AR1.out.ext h4); replace AR2 := Lib.hid (AR2.out.ext h4); clear h4)
    | (go_at_call 14; (with_reducible refine (size_is (a := a) p g _ _ hn2.out _ (H.out _ hX) AR1.out).mono ?_); rintro e w4 ⟨rfl, h4⟩; replace hX := Ext.trans hX h4; replace AR1 := Lib.hid (AR1.out.ext h4); replace AR2 := Lib.hid (AR2.out.ext h4); clear h4)
    | (go_at_call 14; (with_reducible refine (size_is (a := a) p2 g2 _ _ hn2.out _ (H.out _ hX) AR2.out).mono ?_); rintro e w4 ⟨rfl, h4⟩; replace hX := Ext.trans hX h4; replace AR1 := Lib.hid (AR1.out.ext h4); replace AR2 := Lib.hid (AR2.out.ext h4); clear h4)
    | (go_at_call 22; (with_reducible refine (write_is (a := a) p g L x S _ _ KK.out.1.1 KK.out.1.2 _ (H.out _ hX) AR1.out).mono ?_); rintro e w4 ⟨rfl, hc, hA⟩; replace hX := Chg.below hX hc hX.size HP.out.2; replace AR1 := Lib.hid hA; replace AR2 := Lib.hid (AR2.out.other hc D.out.2.1 D.out.2.2); clear hc hA)
    | (go_at_call 22; (with_reducible refine (write_is (a := a) p g L1 y T _ _ KK.out.2.1.1 KK.out.2.1.2 _ (H.out _ hX) AR1.out).mono ?_); rintro e w4 ⟨rfl, hc, hA⟩; replace hX := Chg.below hX hc hX.size HP.out.2; replace AR1 := Lib.hid hA; replace AR2 := Lib.hid (AR2.out.other hc D.out.2.1 D.out.2.2); clear hc hA)
    | (go_at_call 22; (with_reducible refine (write_is (a := a) p2 g2 L y T _ _ KK.out.2.2.1.1 KK.out.2.2.1.2 _ (H.out _ hX) AR2.out).mono ?_); rintro e w4 ⟨rfl, hc, hA⟩; replace hX := Chg.below hX hc hX.size HP2.out.2; replace AR2 := Lib.hid hA; replace AR1 := Lib.hid (AR1.out.other hc D.out.1.1 D.out.1.2); clear hc hA)
    | (go_at_call 22; (with_reducible refine (write_is (a := a) p2 g2 M1 x S _ _ KK.out.2.2.2.1 KK.out.2.2.2.2 _ (H.out _ hX) AR2.out).mono ?_); rintro e w4 ⟨rfl, hc, hA⟩; replace hX := Chg.below hX hc hX.size HP2.out.2; replace AR2 := Lib.hid hA; replace AR1 := Lib.hid (AR1.out.other hc D.out.1.1 D.out.1.2); clear hc hA)
    | (go_at_call 18; (with_reducible refine (read_is (a := a) p g _ 0 (N : Nat) _ _ K2.out.1 K2.out.2 _ (H.out _ hX) AR1.out).mono ?_); rintro e w4 ⟨rfl, h4⟩; replace hX := Ext.trans hX h4; replace AR1 := Lib.hid (AR1.out.ext h4); replace AR2 := Lib.hid (AR2.out.ext h4); clear h4)
    | (go_at_call 18; (with_reducible refine (read_is (a := a) p2 g2 _ 0 (N : Nat) _ _ K2.out.1 K2.out.2 _ (H.out _ hX) AR2.out).mono ?_); rintro e w4 ⟨rfl, h4⟩; replace hX := Ext.trans hX h4; replace AR1 := Lib.hid (AR1.out.ext h4); replace AR2 := Lib.hid (AR2.out.ext h4); clear h4))
  go_ret
  exact ⟨rfl, hX⟩
set_option maxHeartbeats 4000000 in
set_option maxRecDepth 100000 in
theorem apart_m001 (L : List UInt8) (N : Nat) (hN : L.length = N) (hL : N ≤ 131072) (b : Int) (A : Option Addr) (n c : Nat) (x : Int) (S0 S : List UInt8) (hS : S0.take 100 = S) (y : Int) (T0 T : List UInt8) (hT : T0.take 100 = T) (hs0 : S0.length ≤ 100) (ht0 : ¬ T0.length ≤ 100) (x0 : 0 ≤ x) (y0 : 0 ≤ y) (x1 : x ≤ N) (y1 : y ≤ N) (m1 : x + S.length ≤ y) (w : World) (hG : G a w) (hM : ∀ W, Ext w W → Calls Tryd.prog 21 #[.int .i64 b, .slice A n c] W (MadeP W L)) :
    Calls Tryd.prog 7 #[.int .i64 b, .slice A n c, .int .i64 x, .string ⟨S0.toArray⟩, .int .i64 y, .string ⟨T0.toArray⟩] w fun e w' => e = .returned (.bool true) ∧ Ext w w' := by
  have SH := Lib.hid (shown_any (a := a) w hG)
  have H := Lib.hid (fun W (hW : Ext w W) => hG.ext hW)
  have M := Lib.hid hM
  have hs1 : (S0.length : Int) ≤ 100 := by omega
  have hsx : ByteArray.extract ⟨S0.toArray⟩ 0 S0.length = ⟨S.toArray⟩ := by rw [← hS]; exact extract_allN S0 100 hs0
  have hsz : (⟨S.toArray⟩ : ByteArray).size = S.length := by simp [ByteArray.size]
  have ht1 : ¬ (T0.length : Int) ≤ 100 := by omega
  have htx : ByteArray.extract ⟨T0.toArray⟩ 0 100 = ⟨T.toArray⟩ := by rw [← hT]; exact extract_take T0 100
  have htz : (⟨T.toArray⟩ : ByteArray).size = T.length := by simp [ByteArray.size]
  have hSl : S.length ≤ 100 := by rw [← hS]; simp; omega
  have hTl : T.length ≤ 100 := by rw [← hT]; simp; omega
  have hN0 : (N : Int) ≤ 131072 := by omega
  have hn := Lib.hid (show (L.length : Int) = (N : Nat) by omega)
  obtain ⟨L1, hL1⟩ : ∃ K, wrL L x S = K := ⟨_, rfl⟩
  obtain ⟨M1, hM1⟩ : ∃ K, wrL L y T = K := ⟨_, rfl⟩
  obtain ⟨L2, hL2⟩ : ∃ K, wrL L1 y T = K := ⟨_, rfl⟩
  have hM2 : wrL M1 x S = L2 := by rw [← hL2, ← hL1, ← hM1]; exact (wr_comm L x y S T (by omega)).symm
  obtain ⟨E1, hE1⟩ : ∃ E, rdE L x S.length = E := ⟨_, rfl⟩
  obtain ⟨E2, hE2⟩ : ∃ E, rdE L y T.length = E := ⟨_, rfl⟩
  have hE3 : rdE L1 y T.length = E2 := by rw [← hE2]; exact rdE_len (by rw [← hL1]; exact wrL_len _ _ _) _ _
  have hE4 : rdE M1 x S.length = E1 := by rw [← hE1]; exact rdE_len (by rw [← hM1]; exact wrL_len _ _ _) _ _
  have hl2 : L2.length = N := by rw [← hL2, wrL_len, ← hL1, wrL_len, hN]
  have hn2 := Lib.hid (show (L2.length : Int) = (N : Nat) by omega)
  have K2 := Lib.hid (rd_all L2 N hl2)
  have KK := Lib.hid (And.intro (And.intro hE1 hL1) (And.intro (And.intro hE3 hL2) (And.intro (And.intro hE2 hM1) (And.intro hE4 hM2))))
  have hl3 : (L2.length : Int) = N := by omega
  clear hL1 hM1 hL2 hM2 hE1 hE2 hE3 hE4 hS hT hs0 ht0 hN
  clear hG hM
  go_enter Tryd.func7, Tryd.ntmps7
  go_wp2_with (first
    | (go_at_call 10; refine (SH.out).mono ?_; rintro e w1 ⟨rfl, hX⟩)
    | (go_at_call 21; have zz := AR1; refine (M.out _ hX).mono ?_; rintro e w3 ⟨p2, g2, rfl, hp, hg, h2, hA⟩; have HP2 := Lib.hid (And.intro (Nat.le_trans hX.size hp) (Nat.le_trans hX.size hg)); have D := Lib.hid (show (p ≠ g2 ∧ g ≠ g2) ∧ (p2 ≠ g ∧ g2 ≠ g) from by have := AR1.out.p.lt; have := AR1.out.b.lt; omega); replace hX := Ext.trans hX h2; replace AR1 := Lib.hid (AR1.out.ext h2); have AR2 := Lib.hid hA; clear h2 hp hg hA zz)
    | (go_at_call 21; refine (M.out _ hX).mono ?_; rintro e w2 ⟨p, g, rfl, hp, hg, h2, hA⟩; have HP := Lib.hid (And.intro (Nat.le_trans hX.size hp) (Nat.le_trans hX.size hg)); replace hX := Ext.trans hX h2; have AR1 := Lib.hid hA; clear h2 hp hg hA)
    | (go_at_call 14; (with_reducible refine (size_is (a := a) p g _ _ hn.out _ (H.out _ hX) AR1.out).mono ?_); rintro e w4 ⟨rfl, h4⟩; replace hX := Ext.trans hX h4; replace AR1 := Lib.hid (AR1.out.ext h4); replace AR2 := Lib.hid (AR2.out.ext h4); clear h4)
    | (go_at_call 14; (with_reducible refine (size_is (a := a) p g _ _ hn2.out _ (H.out _ hX) AR1.out).mono ?_); rintro e w4 ⟨rfl, h4⟩; replace hX := Ext.trans hX h4; replace AR1 := Lib.hid (AR1.out.ext h4); replace AR2 := Lib.hid (AR2.out.ext h4); clear h4)
    | (go_at_call 14; (with_reducible refine (size_is (a := a) p2 g2 _ _ hn2.out _ (H.out _ hX) AR2.out).mono ?_); rintro e w4 ⟨rfl, h4⟩; replace hX := Ext.trans hX h4; replace AR1 := Lib.hid (AR1.out.ext h4); replace AR2 := Lib.hid (AR2.out.ext h4); clear h4)
    | (go_at_call 22; (with_reducible refine (write_is (a := a) p g L x S _ _ KK.out.1.1 KK.out.1.2 _ (H.out _ hX) AR1.out).mono ?_); rintro e w4 ⟨rfl, hc, hA⟩; replace hX := Chg.below hX hc hX.size HP.out.2; replace AR1 := Lib.hid hA; replace AR2 := Lib.hid (AR2.out.other hc D.out.2.1 D.out.2.2); clear hc hA)
    | (go_at_call 22; (with_reducible refine (write_is (a := a) p g L1 y T _ _ KK.out.2.1.1 KK.out.2.1.2 _ (H.out _ hX) AR1.out).mono ?_); rintro e w4 ⟨rfl, hc, hA⟩; replace hX := Chg.below hX hc hX.size HP.out.2; replace AR1 := Lib.hid hA; replace AR2 := Lib.hid (AR2.out.other hc D.out.2.1 D.out.2.2); clear hc hA)
    | (go_at_call 22; (with_reducible refine (write_is (a := a) p2 g2 L y T _ _ KK.out.2.2.1.1 KK.out.2.2.1.2 _ (H.out _ hX) AR2.out).mono ?_); rintro e w4 ⟨rfl, hc, hA⟩; replace hX := Chg.below hX hc hX.size HP2.out.2; replace AR2 := Lib.hid hA; replace AR1 := Lib.hid (AR1.out.other hc D.out.1.1 D.out.1.2); clear hc hA)
    | (go_at_call 22; (with_reducible refine (write_is (a := a) p2 g2 M1 x S _ _ KK.out.2.2.2.1 KK.out.2.2.2.2 _ (H.out _ hX) AR2.out).mono ?_); rintro e w4 ⟨rfl, hc, hA⟩; replace hX := Chg.below hX hc hX.size HP2.out.2; replace AR2 := Lib.hid hA; replace AR1 := Lib.hid (AR1.out.other hc D.out.1.1 D.out.1.2); clear hc hA)
    | (go_at_call 18; (with_reducible refine (read_is (a := a) p g _ 0 (N : Nat) _ _ K2.out.1 K2.out.2 _ (H.out _ hX) AR1.out).mono ?_); rintro e w4 ⟨rfl, h4⟩; replace hX := Ext.trans hX h4; replace AR1 := Lib.hid (AR1.out.ext h4); replace AR2 := Lib.hid (AR2.out.ext h4); clear h4)
    | (go_at_call 18; (with_reducible refine (read_is (a := a) p2 g2 _ 0 (N : Nat) _ _ K2.out.1 K2.out.2 _ (H.out _ hX) AR2.out).mono ?_); rintro e w4 ⟨rfl, h4⟩; replace hX := Ext.trans hX h4; replace AR1 := Lib.hid (AR1.out.ext h4); replace AR2 := Lib.hid (AR2.out.ext h4); clear h4))
  go_ret
  exact ⟨rfl, hX⟩
set_option maxHeartbeats 4000000 in
set_option maxRecDepth 100000 in
theorem apart_m101 (L : List UInt8) (N : Nat) (hN : L.length = N) (hL : N ≤ 131072) (b : Int) (A : Option Addr) (n c : Nat) (x : Int) (S0 S : List UInt8) (hS : S0.take 100 = S) (y : Int) (T0 T : List UInt8) (hT : T0.take 100 = T) (hs0 : S0.length ≤ 100) (ht0 : ¬ T0.length ≤ 100) (x0 : 0 ≤ x) (y0 : 0 ≤ y) (x1 : x ≤ N) (y1 : y ≤ N) (m1 : y < x + S.length) (m2 : y + T.length ≤ x) (w : World) (hG : G a w) (hM : ∀ W, Ext w W → Calls Tryd.prog 21 #[.int .i64 b, .slice A n c] W (MadeP W L)) :
    Calls Tryd.prog 7 #[.int .i64 b, .slice A n c, .int .i64 x, .string ⟨S0.toArray⟩, .int .i64 y, .string ⟨T0.toArray⟩] w fun e w' => e = .returned (.bool true) ∧ Ext w w' := by
  have SH := Lib.hid (shown_any (a := a) w hG)
  have H := Lib.hid (fun W (hW : Ext w W) => hG.ext hW)
  have M := Lib.hid hM
  have hs1 : (S0.length : Int) ≤ 100 := by omega
  have hsx : ByteArray.extract ⟨S0.toArray⟩ 0 S0.length = ⟨S.toArray⟩ := by rw [← hS]; exact extract_allN S0 100 hs0
  have hsz : (⟨S.toArray⟩ : ByteArray).size = S.length := by simp [ByteArray.size]
  have ht1 : ¬ (T0.length : Int) ≤ 100 := by omega
  have htx : ByteArray.extract ⟨T0.toArray⟩ 0 100 = ⟨T.toArray⟩ := by rw [← hT]; exact extract_take T0 100
  have htz : (⟨T.toArray⟩ : ByteArray).size = T.length := by simp [ByteArray.size]
  have hSl : S.length ≤ 100 := by rw [← hS]; simp; omega
  have hTl : T.length ≤ 100 := by rw [← hT]; simp; omega
  have hN0 : (N : Int) ≤ 131072 := by omega
  have hn := Lib.hid (show (L.length : Int) = (N : Nat) by omega)
  obtain ⟨L1, hL1⟩ : ∃ K, wrL L x S = K := ⟨_, rfl⟩
  obtain ⟨M1, hM1⟩ : ∃ K, wrL L y T = K := ⟨_, rfl⟩
  obtain ⟨L2, hL2⟩ : ∃ K, wrL L1 y T = K := ⟨_, rfl⟩
  have hM2 : wrL M1 x S = L2 := by rw [← hL2, ← hL1, ← hM1]; exact (wr_comm L x y S T (by omega)).symm
  obtain ⟨E1, hE1⟩ : ∃ E, rdE L x S.length = E := ⟨_, rfl⟩
  obtain ⟨E2, hE2⟩ : ∃ E, rdE L y T.length = E := ⟨_, rfl⟩
  have hE3 : rdE L1 y T.length = E2 := by rw [← hE2]; exact rdE_len (by rw [← hL1]; exact wrL_len _ _ _) _ _
  have hE4 : rdE M1 x S.length = E1 := by rw [← hE1]; exact rdE_len (by rw [← hM1]; exact wrL_len _ _ _) _ _
  have hl2 : L2.length = N := by rw [← hL2, wrL_len, ← hL1, wrL_len, hN]
  have hn2 := Lib.hid (show (L2.length : Int) = (N : Nat) by omega)
  have K2 := Lib.hid (rd_all L2 N hl2)
  have KK := Lib.hid (And.intro (And.intro hE1 hL1) (And.intro (And.intro hE3 hL2) (And.intro (And.intro hE2 hM1) (And.intro hE4 hM2))))
  have hl3 : (L2.length : Int) = N := by omega
  clear hL1 hM1 hL2 hM2 hE1 hE2 hE3 hE4 hS hT hs0 ht0 hN
  clear hG hM
  go_enter Tryd.func7, Tryd.ntmps7
  go_wp2_with (first
    | (go_at_call 10; refine (SH.out).mono ?_; rintro e w1 ⟨rfl, hX⟩)
    | (go_at_call 21; have zz := AR1; refine (M.out _ hX).mono ?_; rintro e w3 ⟨p2, g2, rfl, hp, hg, h2, hA⟩; have HP2 := Lib.hid (And.intro (Nat.le_trans hX.size hp) (Nat.le_trans hX.size hg)); have D := Lib.hid (show (p ≠ g2 ∧ g ≠ g2) ∧ (p2 ≠ g ∧ g2 ≠ g) from by have := AR1.out.p.lt; have := AR1.out.b.lt; omega); replace hX := Ext.trans hX h2; replace AR1 := Lib.hid (AR1.out.ext h2); have AR2 := Lib.hid hA; clear h2 hp hg hA zz)
    | (go_at_call 21; refine (M.out _ hX).mono ?_; rintro e w2 ⟨p, g, rfl, hp, hg, h2, hA⟩; have HP := Lib.hid (And.intro (Nat.le_trans hX.size hp) (Nat.le_trans hX.size hg)); replace hX := Ext.trans hX h2; have AR1 := Lib.hid hA; clear h2 hp hg hA)
    | (go_at_call 14; (with_reducible refine (size_is (a := a) p g _ _ hn.out _ (H.out _ hX) AR1.out).mono ?_); rintro e w4 ⟨rfl, h4⟩; replace hX := Ext.trans hX h4; replace AR1 := Lib.hid (AR1.out.ext h4); replace AR2 := Lib.hid (AR2.out.ext h4); clear h4)
    | (go_at_call 14; (with_reducible refine (size_is (a := a) p g _ _ hn2.out _ (H.out _ hX) AR1.out).mono ?_); rintro e w4 ⟨rfl, h4⟩; replace hX := Ext.trans hX h4; replace AR1 := Lib.hid (AR1.out.ext h4); replace AR2 := Lib.hid (AR2.out.ext h4); clear h4)
    | (go_at_call 14; (with_reducible refine (size_is (a := a) p2 g2 _ _ hn2.out _ (H.out _ hX) AR2.out).mono ?_); rintro e w4 ⟨rfl, h4⟩; replace hX := Ext.trans hX h4; replace AR1 := Lib.hid (AR1.out.ext h4); replace AR2 := Lib.hid (AR2.out.ext h4); clear h4)
    | (go_at_call 22; (with_reducible refine (write_is (a := a) p g L x S _ _ KK.out.1.1 KK.out.1.2 _ (H.out _ hX) AR1.out).mono ?_); rintro e w4 ⟨rfl, hc, hA⟩; replace hX := Chg.below hX hc hX.size HP.out.2; replace AR1 := Lib.hid hA; replace AR2 := Lib.hid (AR2.out.other hc D.out.2.1 D.out.2.2); clear hc hA)
    | (go_at_call 22; (with_reducible refine (write_is (a := a) p g L1 y T _ _ KK.out.2.1.1 KK.out.2.1.2 _ (H.out _ hX) AR1.out).mono ?_); rintro e w4 ⟨rfl, hc, hA⟩; replace hX := Chg.below hX hc hX.size HP.out.2; replace AR1 := Lib.hid hA; replace AR2 := Lib.hid (AR2.out.other hc D.out.2.1 D.out.2.2); clear hc hA)
    | (go_at_call 22; (with_reducible refine (write_is (a := a) p2 g2 L y T _ _ KK.out.2.2.1.1 KK.out.2.2.1.2 _ (H.out _ hX) AR2.out).mono ?_); rintro e w4 ⟨rfl, hc, hA⟩; replace hX := Chg.below hX hc hX.size HP2.out.2; replace AR2 := Lib.hid hA; replace AR1 := Lib.hid (AR1.out.other hc D.out.1.1 D.out.1.2); clear hc hA)
    | (go_at_call 22; (with_reducible refine (write_is (a := a) p2 g2 M1 x S _ _ KK.out.2.2.2.1 KK.out.2.2.2.2 _ (H.out _ hX) AR2.out).mono ?_); rintro e w4 ⟨rfl, hc, hA⟩; replace hX := Chg.below hX hc hX.size HP2.out.2; replace AR2 := Lib.hid hA; replace AR1 := Lib.hid (AR1.out.other hc D.out.1.1 D.out.1.2); clear hc hA)
    | (go_at_call 18; (with_reducible refine (read_is (a := a) p g _ 0 (N : Nat) _ _ K2.out.1 K2.out.2 _ (H.out _ hX) AR1.out).mono ?_); rintro e w4 ⟨rfl, h4⟩; replace hX := Ext.trans hX h4; replace AR1 := Lib.hid (AR1.out.ext h4); replace AR2 := Lib.hid (AR2.out.ext h4); clear h4)
    | (go_at_call 18; (with_reducible refine (read_is (a := a) p2 g2 _ 0 (N : Nat) _ _ K2.out.1 K2.out.2 _ (H.out _ hX) AR2.out).mono ?_); rintro e w4 ⟨rfl, h4⟩; replace hX := Ext.trans hX h4; replace AR1 := Lib.hid (AR1.out.ext h4); replace AR2 := Lib.hid (AR2.out.ext h4); clear h4))
  go_ret
  exact ⟨rfl, hX⟩
set_option maxHeartbeats 4000000 in
set_option maxRecDepth 100000 in
theorem apart_m010 (L : List UInt8) (N : Nat) (hN : L.length = N) (hL : N ≤ 131072) (b : Int) (A : Option Addr) (n c : Nat) (x : Int) (S0 S : List UInt8) (hS : S0.take 100 = S) (y : Int) (T0 T : List UInt8) (hT : T0.take 100 = T) (hs0 : ¬ S0.length ≤ 100) (ht0 : T0.length ≤ 100) (x0 : 0 ≤ x) (y0 : 0 ≤ y) (x1 : x ≤ N) (y1 : y ≤ N) (m1 : x + S.length ≤ y) (w : World) (hG : G a w) (hM : ∀ W, Ext w W → Calls Tryd.prog 21 #[.int .i64 b, .slice A n c] W (MadeP W L)) :
    Calls Tryd.prog 7 #[.int .i64 b, .slice A n c, .int .i64 x, .string ⟨S0.toArray⟩, .int .i64 y, .string ⟨T0.toArray⟩] w fun e w' => e = .returned (.bool true) ∧ Ext w w' := by
  have SH := Lib.hid (shown_any (a := a) w hG)
  have H := Lib.hid (fun W (hW : Ext w W) => hG.ext hW)
  have M := Lib.hid hM
  have hs1 : ¬ (S0.length : Int) ≤ 100 := by omega
  have hsx : ByteArray.extract ⟨S0.toArray⟩ 0 100 = ⟨S.toArray⟩ := by rw [← hS]; exact extract_take S0 100
  have hsz : (⟨S.toArray⟩ : ByteArray).size = S.length := by simp [ByteArray.size]
  have ht1 : (T0.length : Int) ≤ 100 := by omega
  have htx : ByteArray.extract ⟨T0.toArray⟩ 0 T0.length = ⟨T.toArray⟩ := by rw [← hT]; exact extract_allN T0 100 ht0
  have htz : (⟨T.toArray⟩ : ByteArray).size = T.length := by simp [ByteArray.size]
  have hSl : S.length ≤ 100 := by rw [← hS]; simp; omega
  have hTl : T.length ≤ 100 := by rw [← hT]; simp; omega
  have hN0 : (N : Int) ≤ 131072 := by omega
  have hn := Lib.hid (show (L.length : Int) = (N : Nat) by omega)
  obtain ⟨L1, hL1⟩ : ∃ K, wrL L x S = K := ⟨_, rfl⟩
  obtain ⟨M1, hM1⟩ : ∃ K, wrL L y T = K := ⟨_, rfl⟩
  obtain ⟨L2, hL2⟩ : ∃ K, wrL L1 y T = K := ⟨_, rfl⟩
  have hM2 : wrL M1 x S = L2 := by rw [← hL2, ← hL1, ← hM1]; exact (wr_comm L x y S T (by omega)).symm
  obtain ⟨E1, hE1⟩ : ∃ E, rdE L x S.length = E := ⟨_, rfl⟩
  obtain ⟨E2, hE2⟩ : ∃ E, rdE L y T.length = E := ⟨_, rfl⟩
  have hE3 : rdE L1 y T.length = E2 := by rw [← hE2]; exact rdE_len (by rw [← hL1]; exact wrL_len _ _ _) _ _
  have hE4 : rdE M1 x S.length = E1 := by rw [← hE1]; exact rdE_len (by rw [← hM1]; exact wrL_len _ _ _) _ _
  have hl2 : L2.length = N := by rw [← hL2, wrL_len, ← hL1, wrL_len, hN]
  have hn2 := Lib.hid (show (L2.length : Int) = (N : Nat) by omega)
  have K2 := Lib.hid (rd_all L2 N hl2)
  have KK := Lib.hid (And.intro (And.intro hE1 hL1) (And.intro (And.intro hE3 hL2) (And.intro (And.intro hE2 hM1) (And.intro hE4 hM2))))
  have hl3 : (L2.length : Int) = N := by omega
  clear hL1 hM1 hL2 hM2 hE1 hE2 hE3 hE4 hS hT hs0 ht0 hN
  clear hG hM
  go_enter Tryd.func7, Tryd.ntmps7
  go_wp2_with (first
    | (go_at_call 10; refine (SH.out).mono ?_; rintro e w1 ⟨rfl, hX⟩)
    | (go_at_call 21; have zz := AR1; refine (M.out _ hX).mono ?_; rintro e w3 ⟨p2, g2, rfl, hp, hg, h2, hA⟩; have HP2 := Lib.hid (And.intro (Nat.le_trans hX.size hp) (Nat.le_trans hX.size hg)); have D := Lib.hid (show (p ≠ g2 ∧ g ≠ g2) ∧ (p2 ≠ g ∧ g2 ≠ g) from by have := AR1.out.p.lt; have := AR1.out.b.lt; omega); replace hX := Ext.trans hX h2; replace AR1 := Lib.hid (AR1.out.ext h2); have AR2 := Lib.hid hA; clear h2 hp hg hA zz)
    | (go_at_call 21; refine (M.out _ hX).mono ?_; rintro e w2 ⟨p, g, rfl, hp, hg, h2, hA⟩; have HP := Lib.hid (And.intro (Nat.le_trans hX.size hp) (Nat.le_trans hX.size hg)); replace hX := Ext.trans hX h2; have AR1 := Lib.hid hA; clear h2 hp hg hA)
    | (go_at_call 14; (with_reducible refine (size_is (a := a) p g _ _ hn.out _ (H.out _ hX) AR1.out).mono ?_); rintro e w4 ⟨rfl, h4⟩; replace hX := Ext.trans hX h4; replace AR1 := Lib.hid (AR1.out.ext h4); replace AR2 := Lib.hid (AR2.out.ext h4); clear h4)
    | (go_at_call 14; (with_reducible refine (size_is (a := a) p g _ _ hn2.out _ (H.out _ hX) AR1.out).mono ?_); rintro e w4 ⟨rfl, h4⟩; replace hX := Ext.trans hX h4; replace AR1 := Lib.hid (AR1.out.ext h4); replace AR2 := Lib.hid (AR2.out.ext h4); clear h4)
    | (go_at_call 14; (with_reducible refine (size_is (a := a) p2 g2 _ _ hn2.out _ (H.out _ hX) AR2.out).mono ?_); rintro e w4 ⟨rfl, h4⟩; replace hX := Ext.trans hX h4; replace AR1 := Lib.hid (AR1.out.ext h4); replace AR2 := Lib.hid (AR2.out.ext h4); clear h4)
    | (go_at_call 22; (with_reducible refine (write_is (a := a) p g L x S _ _ KK.out.1.1 KK.out.1.2 _ (H.out _ hX) AR1.out).mono ?_); rintro e w4 ⟨rfl, hc, hA⟩; replace hX := Chg.below hX hc hX.size HP.out.2; replace AR1 := Lib.hid hA; replace AR2 := Lib.hid (AR2.out.other hc D.out.2.1 D.out.2.2); clear hc hA)
    | (go_at_call 22; (with_reducible refine (write_is (a := a) p g L1 y T _ _ KK.out.2.1.1 KK.out.2.1.2 _ (H.out _ hX) AR1.out).mono ?_); rintro e w4 ⟨rfl, hc, hA⟩; replace hX := Chg.below hX hc hX.size HP.out.2; replace AR1 := Lib.hid hA; replace AR2 := Lib.hid (AR2.out.other hc D.out.2.1 D.out.2.2); clear hc hA)
    | (go_at_call 22; (with_reducible refine (write_is (a := a) p2 g2 L y T _ _ KK.out.2.2.1.1 KK.out.2.2.1.2 _ (H.out _ hX) AR2.out).mono ?_); rintro e w4 ⟨rfl, hc, hA⟩; replace hX := Chg.below hX hc hX.size HP2.out.2; replace AR2 := Lib.hid hA; replace AR1 := Lib.hid (AR1.out.other hc D.out.1.1 D.out.1.2); clear hc hA)
    | (go_at_call 22; (with_reducible refine (write_is (a := a) p2 g2 M1 x S _ _ KK.out.2.2.2.1 KK.out.2.2.2.2 _ (H.out _ hX) AR2.out).mono ?_); rintro e w4 ⟨rfl, hc, hA⟩; replace hX := Chg.below hX hc hX.size HP2.out.2; replace AR2 := Lib.hid hA; replace AR1 := Lib.hid (AR1.out.other hc D.out.1.1 D.out.1.2); clear hc hA)
    | (go_at_call 18; (with_reducible refine (read_is (a := a) p g _ 0 (N : Nat) _ _ K2.out.1 K2.out.2 _ (H.out _ hX) AR1.out).mono ?_); rintro e w4 ⟨rfl, h4⟩; replace hX := Ext.trans hX h4; replace AR1 := Lib.hid (AR1.out.ext h4); replace AR2 := Lib.hid (AR2.out.ext h4); clear h4)
    | (go_at_call 18; (with_reducible refine (read_is (a := a) p2 g2 _ 0 (N : Nat) _ _ K2.out.1 K2.out.2 _ (H.out _ hX) AR2.out).mono ?_); rintro e w4 ⟨rfl, h4⟩; replace hX := Ext.trans hX h4; replace AR1 := Lib.hid (AR1.out.ext h4); replace AR2 := Lib.hid (AR2.out.ext h4); clear h4))
  go_ret
  exact ⟨rfl, hX⟩
set_option maxHeartbeats 4000000 in
set_option maxRecDepth 100000 in
theorem apart_m110 (L : List UInt8) (N : Nat) (hN : L.length = N) (hL : N ≤ 131072) (b : Int) (A : Option Addr) (n c : Nat) (x : Int) (S0 S : List UInt8) (hS : S0.take 100 = S) (y : Int) (T0 T : List UInt8) (hT : T0.take 100 = T) (hs0 : ¬ S0.length ≤ 100) (ht0 : T0.length ≤ 100) (x0 : 0 ≤ x) (y0 : 0 ≤ y) (x1 : x ≤ N) (y1 : y ≤ N) (m1 : y < x + S.length) (m2 : y + T.length ≤ x) (w : World) (hG : G a w) (hM : ∀ W, Ext w W → Calls Tryd.prog 21 #[.int .i64 b, .slice A n c] W (MadeP W L)) :
    Calls Tryd.prog 7 #[.int .i64 b, .slice A n c, .int .i64 x, .string ⟨S0.toArray⟩, .int .i64 y, .string ⟨T0.toArray⟩] w fun e w' => e = .returned (.bool true) ∧ Ext w w' := by
  have SH := Lib.hid (shown_any (a := a) w hG)
  have H := Lib.hid (fun W (hW : Ext w W) => hG.ext hW)
  have M := Lib.hid hM
  have hs1 : ¬ (S0.length : Int) ≤ 100 := by omega
  have hsx : ByteArray.extract ⟨S0.toArray⟩ 0 100 = ⟨S.toArray⟩ := by rw [← hS]; exact extract_take S0 100
  have hsz : (⟨S.toArray⟩ : ByteArray).size = S.length := by simp [ByteArray.size]
  have ht1 : (T0.length : Int) ≤ 100 := by omega
  have htx : ByteArray.extract ⟨T0.toArray⟩ 0 T0.length = ⟨T.toArray⟩ := by rw [← hT]; exact extract_allN T0 100 ht0
  have htz : (⟨T.toArray⟩ : ByteArray).size = T.length := by simp [ByteArray.size]
  have hSl : S.length ≤ 100 := by rw [← hS]; simp; omega
  have hTl : T.length ≤ 100 := by rw [← hT]; simp; omega
  have hN0 : (N : Int) ≤ 131072 := by omega
  have hn := Lib.hid (show (L.length : Int) = (N : Nat) by omega)
  obtain ⟨L1, hL1⟩ : ∃ K, wrL L x S = K := ⟨_, rfl⟩
  obtain ⟨M1, hM1⟩ : ∃ K, wrL L y T = K := ⟨_, rfl⟩
  obtain ⟨L2, hL2⟩ : ∃ K, wrL L1 y T = K := ⟨_, rfl⟩
  have hM2 : wrL M1 x S = L2 := by rw [← hL2, ← hL1, ← hM1]; exact (wr_comm L x y S T (by omega)).symm
  obtain ⟨E1, hE1⟩ : ∃ E, rdE L x S.length = E := ⟨_, rfl⟩
  obtain ⟨E2, hE2⟩ : ∃ E, rdE L y T.length = E := ⟨_, rfl⟩
  have hE3 : rdE L1 y T.length = E2 := by rw [← hE2]; exact rdE_len (by rw [← hL1]; exact wrL_len _ _ _) _ _
  have hE4 : rdE M1 x S.length = E1 := by rw [← hE1]; exact rdE_len (by rw [← hM1]; exact wrL_len _ _ _) _ _
  have hl2 : L2.length = N := by rw [← hL2, wrL_len, ← hL1, wrL_len, hN]
  have hn2 := Lib.hid (show (L2.length : Int) = (N : Nat) by omega)
  have K2 := Lib.hid (rd_all L2 N hl2)
  have KK := Lib.hid (And.intro (And.intro hE1 hL1) (And.intro (And.intro hE3 hL2) (And.intro (And.intro hE2 hM1) (And.intro hE4 hM2))))
  have hl3 : (L2.length : Int) = N := by omega
  clear hL1 hM1 hL2 hM2 hE1 hE2 hE3 hE4 hS hT hs0 ht0 hN
  clear hG hM
  go_enter Tryd.func7, Tryd.ntmps7
  go_wp2_with (first
    | (go_at_call 10; refine (SH.out).mono ?_; rintro e w1 ⟨rfl, hX⟩)
    | (go_at_call 21; have zz := AR1; refine (M.out _ hX).mono ?_; rintro e w3 ⟨p2, g2, rfl, hp, hg, h2, hA⟩; have HP2 := Lib.hid (And.intro (Nat.le_trans hX.size hp) (Nat.le_trans hX.size hg)); have D := Lib.hid (show (p ≠ g2 ∧ g ≠ g2) ∧ (p2 ≠ g ∧ g2 ≠ g) from by have := AR1.out.p.lt; have := AR1.out.b.lt; omega); replace hX := Ext.trans hX h2; replace AR1 := Lib.hid (AR1.out.ext h2); have AR2 := Lib.hid hA; clear h2 hp hg hA zz)
    | (go_at_call 21; refine (M.out _ hX).mono ?_; rintro e w2 ⟨p, g, rfl, hp, hg, h2, hA⟩; have HP := Lib.hid (And.intro (Nat.le_trans hX.size hp) (Nat.le_trans hX.size hg)); replace hX := Ext.trans hX h2; have AR1 := Lib.hid hA; clear h2 hp hg hA)
    | (go_at_call 14; (with_reducible refine (size_is (a := a) p g _ _ hn.out _ (H.out _ hX) AR1.out).mono ?_); rintro e w4 ⟨rfl, h4⟩; replace hX := Ext.trans hX h4; replace AR1 := Lib.hid (AR1.out.ext h4); replace AR2 := Lib.hid (AR2.out.ext h4); clear h4)
    | (go_at_call 14; (with_reducible refine (size_is (a := a) p g _ _ hn2.out _ (H.out _ hX) AR1.out).mono ?_); rintro e w4 ⟨rfl, h4⟩; replace hX := Ext.trans hX h4; replace AR1 := Lib.hid (AR1.out.ext h4); replace AR2 := Lib.hid (AR2.out.ext h4); clear h4)
    | (go_at_call 14; (with_reducible refine (size_is (a := a) p2 g2 _ _ hn2.out _ (H.out _ hX) AR2.out).mono ?_); rintro e w4 ⟨rfl, h4⟩; replace hX := Ext.trans hX h4; replace AR1 := Lib.hid (AR1.out.ext h4); replace AR2 := Lib.hid (AR2.out.ext h4); clear h4)
    | (go_at_call 22; (with_reducible refine (write_is (a := a) p g L x S _ _ KK.out.1.1 KK.out.1.2 _ (H.out _ hX) AR1.out).mono ?_); rintro e w4 ⟨rfl, hc, hA⟩; replace hX := Chg.below hX hc hX.size HP.out.2; replace AR1 := Lib.hid hA; replace AR2 := Lib.hid (AR2.out.other hc D.out.2.1 D.out.2.2); clear hc hA)
    | (go_at_call 22; (with_reducible refine (write_is (a := a) p g L1 y T _ _ KK.out.2.1.1 KK.out.2.1.2 _ (H.out _ hX) AR1.out).mono ?_); rintro e w4 ⟨rfl, hc, hA⟩; replace hX := Chg.below hX hc hX.size HP.out.2; replace AR1 := Lib.hid hA; replace AR2 := Lib.hid (AR2.out.other hc D.out.2.1 D.out.2.2); clear hc hA)
    | (go_at_call 22; (with_reducible refine (write_is (a := a) p2 g2 L y T _ _ KK.out.2.2.1.1 KK.out.2.2.1.2 _ (H.out _ hX) AR2.out).mono ?_); rintro e w4 ⟨rfl, hc, hA⟩; replace hX := Chg.below hX hc hX.size HP2.out.2; replace AR2 := Lib.hid hA; replace AR1 := Lib.hid (AR1.out.other hc D.out.1.1 D.out.1.2); clear hc hA)
    | (go_at_call 22; (with_reducible refine (write_is (a := a) p2 g2 M1 x S _ _ KK.out.2.2.2.1 KK.out.2.2.2.2 _ (H.out _ hX) AR2.out).mono ?_); rintro e w4 ⟨rfl, hc, hA⟩; replace hX := Chg.below hX hc hX.size HP2.out.2; replace AR2 := Lib.hid hA; replace AR1 := Lib.hid (AR1.out.other hc D.out.1.1 D.out.1.2); clear hc hA)
    | (go_at_call 18; (with_reducible refine (read_is (a := a) p g _ 0 (N : Nat) _ _ K2.out.1 K2.out.2 _ (H.out _ hX) AR1.out).mono ?_); rintro e w4 ⟨rfl, h4⟩; replace hX := Ext.trans hX h4; replace AR1 := Lib.hid (AR1.out.ext h4); replace AR2 := Lib.hid (AR2.out.ext h4); clear h4)
    | (go_at_call 18; (with_reducible refine (read_is (a := a) p2 g2 _ 0 (N : Nat) _ _ K2.out.1 K2.out.2 _ (H.out _ hX) AR2.out).mono ?_); rintro e w4 ⟨rfl, h4⟩; replace hX := Ext.trans hX h4; replace AR1 := Lib.hid (AR1.out.ext h4); replace AR2 := Lib.hid (AR2.out.ext h4); clear h4))
  go_ret
  exact ⟨rfl, hX⟩
set_option maxHeartbeats 4000000 in
set_option maxRecDepth 100000 in
theorem apart_m011 (L : List UInt8) (N : Nat) (hN : L.length = N) (hL : N ≤ 131072) (b : Int) (A : Option Addr) (n c : Nat) (x : Int) (S0 S : List UInt8) (hS : S0.take 100 = S) (y : Int) (T0 T : List UInt8) (hT : T0.take 100 = T) (hs0 : ¬ S0.length ≤ 100) (ht0 : ¬ T0.length ≤ 100) (x0 : 0 ≤ x) (y0 : 0 ≤ y) (x1 : x ≤ N) (y1 : y ≤ N) (m1 : x + S.length ≤ y) (w : World) (hG : G a w) (hM : ∀ W, Ext w W → Calls Tryd.prog 21 #[.int .i64 b, .slice A n c] W (MadeP W L)) :
    Calls Tryd.prog 7 #[.int .i64 b, .slice A n c, .int .i64 x, .string ⟨S0.toArray⟩, .int .i64 y, .string ⟨T0.toArray⟩] w fun e w' => e = .returned (.bool true) ∧ Ext w w' := by
  have SH := Lib.hid (shown_any (a := a) w hG)
  have H := Lib.hid (fun W (hW : Ext w W) => hG.ext hW)
  have M := Lib.hid hM
  have hs1 : ¬ (S0.length : Int) ≤ 100 := by omega
  have hsx : ByteArray.extract ⟨S0.toArray⟩ 0 100 = ⟨S.toArray⟩ := by rw [← hS]; exact extract_take S0 100
  have hsz : (⟨S.toArray⟩ : ByteArray).size = S.length := by simp [ByteArray.size]
  have ht1 : ¬ (T0.length : Int) ≤ 100 := by omega
  have htx : ByteArray.extract ⟨T0.toArray⟩ 0 100 = ⟨T.toArray⟩ := by rw [← hT]; exact extract_take T0 100
  have htz : (⟨T.toArray⟩ : ByteArray).size = T.length := by simp [ByteArray.size]
  have hSl : S.length ≤ 100 := by rw [← hS]; simp; omega
  have hTl : T.length ≤ 100 := by rw [← hT]; simp; omega
  have hN0 : (N : Int) ≤ 131072 := by omega
  have hn := Lib.hid (show (L.length : Int) = (N : Nat) by omega)
  obtain ⟨L1, hL1⟩ : ∃ K, wrL L x S = K := ⟨_, rfl⟩
  obtain ⟨M1, hM1⟩ : ∃ K, wrL L y T = K := ⟨_, rfl⟩
  obtain ⟨L2, hL2⟩ : ∃ K, wrL L1 y T = K := ⟨_, rfl⟩
  have hM2 : wrL M1 x S = L2 := by rw [← hL2, ← hL1, ← hM1]; exact (wr_comm L x y S T (by omega)).symm
  obtain ⟨E1, hE1⟩ : ∃ E, rdE L x S.length = E := ⟨_, rfl⟩
  obtain ⟨E2, hE2⟩ : ∃ E, rdE L y T.length = E := ⟨_, rfl⟩
  have hE3 : rdE L1 y T.length = E2 := by rw [← hE2]; exact rdE_len (by rw [← hL1]; exact wrL_len _ _ _) _ _
  have hE4 : rdE M1 x S.length = E1 := by rw [← hE1]; exact rdE_len (by rw [← hM1]; exact wrL_len _ _ _) _ _
  have hl2 : L2.length = N := by rw [← hL2, wrL_len, ← hL1, wrL_len, hN]
  have hn2 := Lib.hid (show (L2.length : Int) = (N : Nat) by omega)
  have K2 := Lib.hid (rd_all L2 N hl2)
  have KK := Lib.hid (And.intro (And.intro hE1 hL1) (And.intro (And.intro hE3 hL2) (And.intro (And.intro hE2 hM1) (And.intro hE4 hM2))))
  have hl3 : (L2.length : Int) = N := by omega
  clear hL1 hM1 hL2 hM2 hE1 hE2 hE3 hE4 hS hT hs0 ht0 hN
  clear hG hM
  go_enter Tryd.func7, Tryd.ntmps7
  go_wp2_with (first
    | (go_at_call 10; refine (SH.out).mono ?_; rintro e w1 ⟨rfl, hX⟩)
    | (go_at_call 21; have zz := AR1; refine (M.out _ hX).mono ?_; rintro e w3 ⟨p2, g2, rfl, hp, hg, h2, hA⟩; have HP2 := Lib.hid (And.intro (Nat.le_trans hX.size hp) (Nat.le_trans hX.size hg)); have D := Lib.hid (show (p ≠ g2 ∧ g ≠ g2) ∧ (p2 ≠ g ∧ g2 ≠ g) from by have := AR1.out.p.lt; have := AR1.out.b.lt; omega); replace hX := Ext.trans hX h2; replace AR1 := Lib.hid (AR1.out.ext h2); have AR2 := Lib.hid hA; clear h2 hp hg hA zz)
    | (go_at_call 21; refine (M.out _ hX).mono ?_; rintro e w2 ⟨p, g, rfl, hp, hg, h2, hA⟩; have HP := Lib.hid (And.intro (Nat.le_trans hX.size hp) (Nat.le_trans hX.size hg)); replace hX := Ext.trans hX h2; have AR1 := Lib.hid hA; clear h2 hp hg hA)
    | (go_at_call 14; (with_reducible refine (size_is (a := a) p g _ _ hn.out _ (H.out _ hX) AR1.out).mono ?_); rintro e w4 ⟨rfl, h4⟩; replace hX := Ext.trans hX h4; replace AR1 := Lib.hid (AR1.out.ext h4); replace AR2 := Lib.hid (AR2.out.ext h4); clear h4)
    | (go_at_call 14; (with_reducible refine (size_is (a := a) p g _ _ hn2.out _ (H.out _ hX) AR1.out).mono ?_); rintro e w4 ⟨rfl, h4⟩; replace hX := Ext.trans hX h4; replace AR1 := Lib.hid (AR1.out.ext h4); replace AR2 := Lib.hid (AR2.out.ext h4); clear h4)
    | (go_at_call 14; (with_reducible refine (size_is (a := a) p2 g2 _ _ hn2.out _ (H.out _ hX) AR2.out).mono ?_); rintro e w4 ⟨rfl, h4⟩; replace hX := Ext.trans hX h4; replace AR1 := Lib.hid (AR1.out.ext h4); replace AR2 := Lib.hid (AR2.out.ext h4); clear h4)
    | (go_at_call 22; (with_reducible refine (write_is (a := a) p g L x S _ _ KK.out.1.1 KK.out.1.2 _ (H.out _ hX) AR1.out).mono ?_); rintro e w4 ⟨rfl, hc, hA⟩; replace hX := Chg.below hX hc hX.size HP.out.2; replace AR1 := Lib.hid hA; replace AR2 := Lib.hid (AR2.out.other hc D.out.2.1 D.out.2.2); clear hc hA)
    | (go_at_call 22; (with_reducible refine (write_is (a := a) p g L1 y T _ _ KK.out.2.1.1 KK.out.2.1.2 _ (H.out _ hX) AR1.out).mono ?_); rintro e w4 ⟨rfl, hc, hA⟩; replace hX := Chg.below hX hc hX.size HP.out.2; replace AR1 := Lib.hid hA; replace AR2 := Lib.hid (AR2.out.other hc D.out.2.1 D.out.2.2); clear hc hA)
    | (go_at_call 22; (with_reducible refine (write_is (a := a) p2 g2 L y T _ _ KK.out.2.2.1.1 KK.out.2.2.1.2 _ (H.out _ hX) AR2.out).mono ?_); rintro e w4 ⟨rfl, hc, hA⟩; replace hX := Chg.below hX hc hX.size HP2.out.2; replace AR2 := Lib.hid hA; replace AR1 := Lib.hid (AR1.out.other hc D.out.1.1 D.out.1.2); clear hc hA)
    | (go_at_call 22; (with_reducible refine (write_is (a := a) p2 g2 M1 x S _ _ KK.out.2.2.2.1 KK.out.2.2.2.2 _ (H.out _ hX) AR2.out).mono ?_); rintro e w4 ⟨rfl, hc, hA⟩; replace hX := Chg.below hX hc hX.size HP2.out.2; replace AR2 := Lib.hid hA; replace AR1 := Lib.hid (AR1.out.other hc D.out.1.1 D.out.1.2); clear hc hA)
    | (go_at_call 18; (with_reducible refine (read_is (a := a) p g _ 0 (N : Nat) _ _ K2.out.1 K2.out.2 _ (H.out _ hX) AR1.out).mono ?_); rintro e w4 ⟨rfl, h4⟩; replace hX := Ext.trans hX h4; replace AR1 := Lib.hid (AR1.out.ext h4); replace AR2 := Lib.hid (AR2.out.ext h4); clear h4)
    | (go_at_call 18; (with_reducible refine (read_is (a := a) p2 g2 _ 0 (N : Nat) _ _ K2.out.1 K2.out.2 _ (H.out _ hX) AR2.out).mono ?_); rintro e w4 ⟨rfl, h4⟩; replace hX := Ext.trans hX h4; replace AR1 := Lib.hid (AR1.out.ext h4); replace AR2 := Lib.hid (AR2.out.ext h4); clear h4))
  go_ret
  exact ⟨rfl, hX⟩
set_option maxHeartbeats 4000000 in
set_option maxRecDepth 100000 in
theorem apart_m111 (L : List UInt8) (N : Nat) (hN : L.length = N) (hL : N ≤ 131072) (b : Int) (A : Option Addr) (n c : Nat) (x : Int) (S0 S : List UInt8) (hS : S0.take 100 = S) (y : Int) (T0 T : List UInt8) (hT : T0.take 100 = T) (hs0 : ¬ S0.length ≤ 100) (ht0 : ¬ T0.length ≤ 100) (x0 : 0 ≤ x) (y0 : 0 ≤ y) (x1 : x ≤ N) (y1 : y ≤ N) (m1 : y < x + S.length) (m2 : y + T.length ≤ x) (w : World) (hG : G a w) (hM : ∀ W, Ext w W → Calls Tryd.prog 21 #[.int .i64 b, .slice A n c] W (MadeP W L)) :
    Calls Tryd.prog 7 #[.int .i64 b, .slice A n c, .int .i64 x, .string ⟨S0.toArray⟩, .int .i64 y, .string ⟨T0.toArray⟩] w fun e w' => e = .returned (.bool true) ∧ Ext w w' := by
  have SH := Lib.hid (shown_any (a := a) w hG)
  have H := Lib.hid (fun W (hW : Ext w W) => hG.ext hW)
  have M := Lib.hid hM
  have hs1 : ¬ (S0.length : Int) ≤ 100 := by omega
  have hsx : ByteArray.extract ⟨S0.toArray⟩ 0 100 = ⟨S.toArray⟩ := by rw [← hS]; exact extract_take S0 100
  have hsz : (⟨S.toArray⟩ : ByteArray).size = S.length := by simp [ByteArray.size]
  have ht1 : ¬ (T0.length : Int) ≤ 100 := by omega
  have htx : ByteArray.extract ⟨T0.toArray⟩ 0 100 = ⟨T.toArray⟩ := by rw [← hT]; exact extract_take T0 100
  have htz : (⟨T.toArray⟩ : ByteArray).size = T.length := by simp [ByteArray.size]
  have hSl : S.length ≤ 100 := by rw [← hS]; simp; omega
  have hTl : T.length ≤ 100 := by rw [← hT]; simp; omega
  have hN0 : (N : Int) ≤ 131072 := by omega
  have hn := Lib.hid (show (L.length : Int) = (N : Nat) by omega)
  obtain ⟨L1, hL1⟩ : ∃ K, wrL L x S = K := ⟨_, rfl⟩
  obtain ⟨M1, hM1⟩ : ∃ K, wrL L y T = K := ⟨_, rfl⟩
  obtain ⟨L2, hL2⟩ : ∃ K, wrL L1 y T = K := ⟨_, rfl⟩
  have hM2 : wrL M1 x S = L2 := by rw [← hL2, ← hL1, ← hM1]; exact (wr_comm L x y S T (by omega)).symm
  obtain ⟨E1, hE1⟩ : ∃ E, rdE L x S.length = E := ⟨_, rfl⟩
  obtain ⟨E2, hE2⟩ : ∃ E, rdE L y T.length = E := ⟨_, rfl⟩
  have hE3 : rdE L1 y T.length = E2 := by rw [← hE2]; exact rdE_len (by rw [← hL1]; exact wrL_len _ _ _) _ _
  have hE4 : rdE M1 x S.length = E1 := by rw [← hE1]; exact rdE_len (by rw [← hM1]; exact wrL_len _ _ _) _ _
  have hl2 : L2.length = N := by rw [← hL2, wrL_len, ← hL1, wrL_len, hN]
  have hn2 := Lib.hid (show (L2.length : Int) = (N : Nat) by omega)
  have K2 := Lib.hid (rd_all L2 N hl2)
  have KK := Lib.hid (And.intro (And.intro hE1 hL1) (And.intro (And.intro hE3 hL2) (And.intro (And.intro hE2 hM1) (And.intro hE4 hM2))))
  have hl3 : (L2.length : Int) = N := by omega
  clear hL1 hM1 hL2 hM2 hE1 hE2 hE3 hE4 hS hT hs0 ht0 hN
  clear hG hM
  go_enter Tryd.func7, Tryd.ntmps7
  go_wp2_with (first
    | (go_at_call 10; refine (SH.out).mono ?_; rintro e w1 ⟨rfl, hX⟩)
    | (go_at_call 21; have zz := AR1; refine (M.out _ hX).mono ?_; rintro e w3 ⟨p2, g2, rfl, hp, hg, h2, hA⟩; have HP2 := Lib.hid (And.intro (Nat.le_trans hX.size hp) (Nat.le_trans hX.size hg)); have D := Lib.hid (show (p ≠ g2 ∧ g ≠ g2) ∧ (p2 ≠ g ∧ g2 ≠ g) from by have := AR1.out.p.lt; have := AR1.out.b.lt; omega); replace hX := Ext.trans hX h2; replace AR1 := Lib.hid (AR1.out.ext h2); have AR2 := Lib.hid hA; clear h2 hp hg hA zz)
    | (go_at_call 21; refine (M.out _ hX).mono ?_; rintro e w2 ⟨p, g, rfl, hp, hg, h2, hA⟩; have HP := Lib.hid (And.intro (Nat.le_trans hX.size hp) (Nat.le_trans hX.size hg)); replace hX := Ext.trans hX h2; have AR1 := Lib.hid hA; clear h2 hp hg hA)
    | (go_at_call 14; (with_reducible refine (size_is (a := a) p g _ _ hn.out _ (H.out _ hX) AR1.out).mono ?_); rintro e w4 ⟨rfl, h4⟩; replace hX := Ext.trans hX h4; replace AR1 := Lib.hid (AR1.out.ext h4); replace AR2 := Lib.hid (AR2.out.ext h4); clear h4)
    | (go_at_call 14; (with_reducible refine (size_is (a := a) p g _ _ hn2.out _ (H.out _ hX) AR1.out).mono ?_); rintro e w4 ⟨rfl, h4⟩; replace hX := Ext.trans hX h4; replace AR1 := Lib.hid (AR1.out.ext h4); replace AR2 := Lib.hid (AR2.out.ext h4); clear h4)
    | (go_at_call 14; (with_reducible refine (size_is (a := a) p2 g2 _ _ hn2.out _ (H.out _ hX) AR2.out).mono ?_); rintro e w4 ⟨rfl, h4⟩; replace hX := Ext.trans hX h4; replace AR1 := Lib.hid (AR1.out.ext h4); replace AR2 := Lib.hid (AR2.out.ext h4); clear h4)
    | (go_at_call 22; (with_reducible refine (write_is (a := a) p g L x S _ _ KK.out.1.1 KK.out.1.2 _ (H.out _ hX) AR1.out).mono ?_); rintro e w4 ⟨rfl, hc, hA⟩; replace hX := Chg.below hX hc hX.size HP.out.2; replace AR1 := Lib.hid hA; replace AR2 := Lib.hid (AR2.out.other hc D.out.2.1 D.out.2.2); clear hc hA)
    | (go_at_call 22; (with_reducible refine (write_is (a := a) p g L1 y T _ _ KK.out.2.1.1 KK.out.2.1.2 _ (H.out _ hX) AR1.out).mono ?_); rintro e w4 ⟨rfl, hc, hA⟩; replace hX := Chg.below hX hc hX.size HP.out.2; replace AR1 := Lib.hid hA; replace AR2 := Lib.hid (AR2.out.other hc D.out.2.1 D.out.2.2); clear hc hA)
    | (go_at_call 22; (with_reducible refine (write_is (a := a) p2 g2 L y T _ _ KK.out.2.2.1.1 KK.out.2.2.1.2 _ (H.out _ hX) AR2.out).mono ?_); rintro e w4 ⟨rfl, hc, hA⟩; replace hX := Chg.below hX hc hX.size HP2.out.2; replace AR2 := Lib.hid hA; replace AR1 := Lib.hid (AR1.out.other hc D.out.1.1 D.out.1.2); clear hc hA)
    | (go_at_call 22; (with_reducible refine (write_is (a := a) p2 g2 M1 x S _ _ KK.out.2.2.2.1 KK.out.2.2.2.2 _ (H.out _ hX) AR2.out).mono ?_); rintro e w4 ⟨rfl, hc, hA⟩; replace hX := Chg.below hX hc hX.size HP2.out.2; replace AR2 := Lib.hid hA; replace AR1 := Lib.hid (AR1.out.other hc D.out.1.1 D.out.1.2); clear hc hA)
    | (go_at_call 18; (with_reducible refine (read_is (a := a) p g _ 0 (N : Nat) _ _ K2.out.1 K2.out.2 _ (H.out _ hX) AR1.out).mono ?_); rintro e w4 ⟨rfl, h4⟩; replace hX := Ext.trans hX h4; replace AR1 := Lib.hid (AR1.out.ext h4); replace AR2 := Lib.hid (AR2.out.ext h4); clear h4)
    | (go_at_call 18; (with_reducible refine (read_is (a := a) p2 g2 _ 0 (N : Nat) _ _ K2.out.1 K2.out.2 _ (H.out _ hX) AR2.out).mono ?_); rintro e w4 ⟨rfl, h4⟩; replace hX := Ext.trans hX h4; replace AR1 := Lib.hid (AR1.out.ext h4); replace AR2 := Lib.hid (AR2.out.ext h4); clear h4))
  go_ret
  exact ⟨rfl, hX⟩
end
end Go.Proofs.YtmehoieijelncaaDoor
