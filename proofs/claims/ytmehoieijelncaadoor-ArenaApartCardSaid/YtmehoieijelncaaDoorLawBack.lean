/- selionlaw03.ArenaBack: the walk (made by gen_laws.py). -/
import Derived.Test.YtmehoieijelncaaDoorLawWords
import Derived.Test.YtmehoieijelncaaDoorLaw
namespace Go.Proofs.YtmehoieijelncaaDoor
open Go.RowKit Go
section
variable {a : Nat → Addr}
theorem cut_all (L : List UInt8) : cut L 0 L.length = L := by unfold cut; simp
theorem rd_all (L : List UInt8) (N : Nat) (h : L.length = N) : rdS L 0 (N : Nat) = L ∧ rdE L 0 (N : Nat) = 0 := by
  have := rd_ok (L := L) (x := 0) (y := (N : Int)) ⟨by omega, by omega, by omega⟩
  rw [Int.toNat_natCast, show (0 : Int).toNat = 0 from rfl, ← h, cut_all] at this
  rw [← h]; exact this
theorem ext_take (L : List UInt8) (x : Nat) : ByteArray.extract ⟨L.toArray⟩ 0 x = ⟨(L.take x).toArray⟩ := by
  apply ByteArray.ext
  rw [ByteArray.data_extract]
  simp
theorem ext_drop (L : List UInt8) (x n : Nat) (h : L.length = n) : ByteArray.extract ⟨L.toArray⟩ x n = ⟨(L.drop x).toArray⟩ := by
  apply ByteArray.ext
  rw [ByteArray.data_extract]
  subst h
  simp
  exact List.take_of_length_le (by simp)
set_option maxHeartbeats 4000000 in
set_option maxRecDepth 100000 in
theorem back_none0 (b : Int) (A : Option Addr) (n c : Nat) (x : Int) (S0 S : List UInt8) (hS : S0.take 200 = S) (_hS0 : S0.length ≤ maxLen) (hs0 : S0.length ≤ 200) (w : World) (hG : G a w) (hM : ∀ W, Ext w W → Calls Tryd.prog 21 #[.int .i64 b, .slice A n c] W (fun e w' => e = .returned (.tuple #[.pointer none, .bool false]) ∧ Ext W w')) :
    Calls Tryd.prog 4 #[.int .i64 b, .slice A n c, .int .i64 x, .string ⟨S0.toArray⟩] w fun e w' => e = .returned (.bool true) ∧ Ext w w' := by
  have SH := Lib.hid (shown_any (a := a) w hG)
  have H := Lib.hid (fun W (hW : Ext w W) => hG.ext hW)
  have M := Lib.hid hM
  have hs1 : (S0.length : Int) ≤ 200 := by omega
  have hex : ByteArray.extract ⟨S0.toArray⟩ 0 S0.length = ⟨S.toArray⟩ := by rw [← hS]; exact extract_all S0 hs0
  have hsz : (⟨S.toArray⟩ : ByteArray).size = S.length := by simp [ByteArray.size]
  clear hS hs0
  clear hG hM
  go_enter Tryd.func4, Tryd.ntmps4
  go_wp2_with (first
    | (go_at_call 10; refine (SH.out).mono ?_; rintro e w1 ⟨rfl, hX⟩)
    | (go_at_call 21; refine (M.out _ hX).mono ?_; rintro e w2 ⟨rfl, h2⟩; replace hX := Ext.trans hX h2; clear h2))
  go_ret
  exact ⟨rfl, hX⟩
set_option maxHeartbeats 4000000 in
set_option maxRecDepth 100000 in
theorem back_neg0 (L : List UInt8) (N : Nat) (hN : L.length = N) (hL : N ≤ 131072) (b : Int) (A : Option Addr) (n c : Nat) (x : Int) (S0 S : List UInt8) (hS : S0.take 200 = S) (_hS0 : S0.length ≤ maxLen) (hs0 : S0.length ≤ 200) (x0 : x < 0) (w : World) (hG : G a w) (hM : ∀ W, Ext w W → Calls Tryd.prog 21 #[.int .i64 b, .slice A n c] W (MadeP W L)) :
    Calls Tryd.prog 4 #[.int .i64 b, .slice A n c, .int .i64 x, .string ⟨S0.toArray⟩] w fun e w' => e = .returned (.bool true) ∧ Ext w w' := by
  have SH := Lib.hid (shown_any (a := a) w hG)
  have H := Lib.hid (fun W (hW : Ext w W) => hG.ext hW)
  have M := Lib.hid hM
  have hs1 : (S0.length : Int) ≤ 200 := by omega
  have hex : ByteArray.extract ⟨S0.toArray⟩ 0 S0.length = ⟨S.toArray⟩ := by rw [← hS]; exact extract_all S0 hs0
  have hsz : (⟨S.toArray⟩ : ByteArray).size = S.length := by simp [ByteArray.size]
  have hSl : S.length ≤ 200 := by rw [← hS]; simp; omega
  have hN0 : (N : Int) ≤ 131072 := by omega
  have hn := Lib.hid (show (L.length : Int) = (N : Nat) by omega)
  have K := Lib.hid (rd_all L N hN)
  have hb := Lib.hid (show ¬ (0 ≤ x ∧ x + S.length ≤ L.length) by omega)
  have hl1 : (L.length : Int) = N := by omega
  clear hN
  clear hS hs0
  clear hG hM
  go_enter Tryd.func4, Tryd.ntmps4
  go_wp2_with (first
    | (go_at_call 10; refine (SH.out).mono ?_; rintro e w1 ⟨rfl, hX⟩)
    | (go_at_call 21; refine (M.out _ hX).mono ?_; rintro e w2 ⟨p, g, rfl, hp, hg, h2, hA⟩; have HP := Lib.hid (And.intro (Nat.le_trans hX.size hp) (Nat.le_trans hX.size hg)); replace hX := Ext.trans hX h2; have AR := Lib.hid hA; clear h2 hp hg hA)
    | (go_at_call 14; (with_reducible refine (size_is (a := a) p g _ _ hn.out _ (H.out _ hX) AR.out).mono ?_); rintro e w3 ⟨rfl, h3⟩; replace hX := Ext.trans hX h3; replace AR := Lib.hid (AR.out.ext h3); clear h3)
    | (go_at_call 18; (with_reducible refine (read_is (a := a) p g _ 0 (N : Nat) _ _ K.out.1 K.out.2 _ (H.out _ hX) AR.out).mono ?_); rintro e w3 ⟨rfl, h3⟩; replace hX := Ext.trans hX h3; replace AR := Lib.hid (AR.out.ext h3); clear h3)
    | (go_at_call 22; refine (write_no (a := a) p g L x S hb.out _ (H.out _ hX) AR.out).mono ?_; rintro e w3 ⟨rfl, h3⟩; replace hX := Ext.trans hX h3; replace AR := Lib.hid (AR.out.ext h3); clear h3))
  go_ret
  exact ⟨rfl, hX⟩
set_option maxHeartbeats 4000000 in
set_option maxRecDepth 100000 in
theorem back_big0 (L : List UInt8) (N : Nat) (hN : L.length = N) (hL : N ≤ 131072) (b : Int) (A : Option Addr) (n c : Nat) (x : Int) (S0 S : List UInt8) (hS : S0.take 200 = S) (_hS0 : S0.length ≤ maxLen) (hs0 : S0.length ≤ 200) (x0 : 0 ≤ x) (x1 : N < x + S.length) (w : World) (hG : G a w) (hM : ∀ W, Ext w W → Calls Tryd.prog 21 #[.int .i64 b, .slice A n c] W (MadeP W L)) :
    Calls Tryd.prog 4 #[.int .i64 b, .slice A n c, .int .i64 x, .string ⟨S0.toArray⟩] w fun e w' => e = .returned (.bool true) ∧ Ext w w' := by
  have SH := Lib.hid (shown_any (a := a) w hG)
  have H := Lib.hid (fun W (hW : Ext w W) => hG.ext hW)
  have M := Lib.hid hM
  have hs1 : (S0.length : Int) ≤ 200 := by omega
  have hex : ByteArray.extract ⟨S0.toArray⟩ 0 S0.length = ⟨S.toArray⟩ := by rw [← hS]; exact extract_all S0 hs0
  have hsz : (⟨S.toArray⟩ : ByteArray).size = S.length := by simp [ByteArray.size]
  have hSl : S.length ≤ 200 := by rw [← hS]; simp; omega
  have hN0 : (N : Int) ≤ 131072 := by omega
  have hn := Lib.hid (show (L.length : Int) = (N : Nat) by omega)
  have K := Lib.hid (rd_all L N hN)
  have hb := Lib.hid (show ¬ (0 ≤ x ∧ x + S.length ≤ L.length) by omega)
  have x2 : (N : Int) - S.length < x := by omega
  have hl1 : (L.length : Int) = N := by omega
  clear hN
  clear hS hs0
  clear hG hM
  go_enter Tryd.func4, Tryd.ntmps4
  go_wp2_with (first
    | (go_at_call 10; refine (SH.out).mono ?_; rintro e w1 ⟨rfl, hX⟩)
    | (go_at_call 21; refine (M.out _ hX).mono ?_; rintro e w2 ⟨p, g, rfl, hp, hg, h2, hA⟩; have HP := Lib.hid (And.intro (Nat.le_trans hX.size hp) (Nat.le_trans hX.size hg)); replace hX := Ext.trans hX h2; have AR := Lib.hid hA; clear h2 hp hg hA)
    | (go_at_call 14; (with_reducible refine (size_is (a := a) p g _ _ hn.out _ (H.out _ hX) AR.out).mono ?_); rintro e w3 ⟨rfl, h3⟩; replace hX := Ext.trans hX h3; replace AR := Lib.hid (AR.out.ext h3); clear h3)
    | (go_at_call 18; (with_reducible refine (read_is (a := a) p g _ 0 (N : Nat) _ _ K.out.1 K.out.2 _ (H.out _ hX) AR.out).mono ?_); rintro e w3 ⟨rfl, h3⟩; replace hX := Ext.trans hX h3; replace AR := Lib.hid (AR.out.ext h3); clear h3)
    | (go_at_call 22; refine (write_no (a := a) p g L x S hb.out _ (H.out _ hX) AR.out).mono ?_; rintro e w3 ⟨rfl, h3⟩; replace hX := Ext.trans hX h3; replace AR := Lib.hid (AR.out.ext h3); clear h3))
  go_ret
  exact ⟨rfl, hX⟩
set_option maxHeartbeats 4000000 in
set_option maxRecDepth 100000 in
theorem back_ok0 (L : List UInt8) (N : Nat) (hN : L.length = N) (hL : N ≤ 131072) (b : Int) (A : Option Addr) (n c : Nat) (x : Nat) (S0 S : List UInt8) (hS : S0.take 200 = S) (_hS0 : S0.length ≤ maxLen) (hs0 : S0.length ≤ 200) (x1 : x + S.length ≤ N) (w : World) (hG : G a w) (hM : ∀ W, Ext w W → Calls Tryd.prog 21 #[.int .i64 b, .slice A n c] W (MadeP W L)) :
    Calls Tryd.prog 4 #[.int .i64 b, .slice A n c, .int .i64 (x : Nat), .string ⟨S0.toArray⟩] w fun e w' => e = .returned (.bool true) ∧ Ext w w' := by
  have SH := Lib.hid (shown_any (a := a) w hG)
  have H := Lib.hid (fun W (hW : Ext w W) => hG.ext hW)
  have M := Lib.hid hM
  have hs1 : (S0.length : Int) ≤ 200 := by omega
  have hex : ByteArray.extract ⟨S0.toArray⟩ 0 S0.length = ⟨S.toArray⟩ := by rw [← hS]; exact extract_all S0 hs0
  have hsz : (⟨S.toArray⟩ : ByteArray).size = S.length := by simp [ByteArray.size]
  have hSl : S.length ≤ 200 := by rw [← hS]; simp; omega
  have hN0 : (N : Int) ≤ 131072 := by omega
  have hn := Lib.hid (show (L.length : Int) = (N : Nat) by omega)
  have K := Lib.hid (rd_all L N hN)
  have hb := Lib.hid (show 0 ≤ (x : Int) ∧ (x : Int) + S.length ≤ L.length by omega)
  have x2 : ¬ (N : Int) - S.length < x := by omega
  obtain ⟨L2, hL2⟩ : ∃ L2, lay L x S = L2 := ⟨_, rfl⟩
  have hl2 : L2.length = N := by rw [← hL2, lay_len _ _ _ (by omega), hN]
  have K2 := Lib.hid (rd_all L2 N hl2)
  have K3 := Lib.hid (show rdS L2 (x : Nat) (S.length : Nat) = S ∧ rdE L2 (x : Nat) (S.length : Nat) = 0 by
    have := rd_ok (L := L2) (x := (x : Int)) (y := (S.length : Int)) ⟨by omega, by omega, by omega⟩
    rw [Int.toNat_natCast, Int.toNat_natCast, ← hL2, cut_lay L x S (by omega), hL2] at this
    exact this)
  have hn2 := Lib.hid (show (L2.length : Int) = (N : Nat) by omega)
  have HL2 := Lib.hid hL2
  have t1 := ext_take L x
  have t2 : (⟨(L.take x).toArray⟩ ++ ⟨S.toArray⟩ : ByteArray) = ⟨(L.take x ++ S).toArray⟩ := str_app _ _
  have t3 := ext_drop L (x + S.length) N hN
  have t4 : (⟨(L.take x ++ S).toArray⟩ ++ ⟨(L.drop (x + S.length)).toArray⟩ : ByteArray) = ⟨L2.toArray⟩ := by rw [str_app, ← hL2]; unfold lay splice; rw [List.append_assoc]
  have x3 : (x : Int) ≤ N := by omega
  have x4 : (x : Int) + S.length ≤ N := by omega
  have x5 : (x : Int) + S.length ≤ 131072 := by omega
  have hl1 : (L.length : Int) = N := by omega
  have hl3 : (L2.length : Int) = N := by omega
  clear hL2
  clear hS hs0
  clear hG hM
  go_enter Tryd.func4, Tryd.ntmps4
  go_wp2_with (first
    | (go_at_call 10; refine (SH.out).mono ?_; rintro e w1 ⟨rfl, hX⟩)
    | (go_at_call 21; refine (M.out _ hX).mono ?_; rintro e w2 ⟨p, g, rfl, hp, hg, h2, hA⟩; have HP := Lib.hid (And.intro (Nat.le_trans hX.size hp) (Nat.le_trans hX.size hg)); replace hX := Ext.trans hX h2; have AR := Lib.hid hA; clear h2 hp hg hA)
    | (go_at_call 14; (with_reducible refine (size_is (a := a) p g _ _ hn.out _ (H.out _ hX) AR.out).mono ?_); rintro e w3 ⟨rfl, h3⟩; replace hX := Ext.trans hX h3; replace AR := Lib.hid (AR.out.ext h3); clear h3)
    | (go_at_call 14; (with_reducible refine (size_is (a := a) p g _ _ hn2.out _ (H.out _ hX) AR.out).mono ?_); rintro e w3 ⟨rfl, h3⟩; replace hX := Ext.trans hX h3; replace AR := Lib.hid (AR.out.ext h3); clear h3)
    | (go_at_call 18; (with_reducible refine (read_is (a := a) p g _ 0 (N : Nat) _ _ K.out.1 K.out.2 _ (H.out _ hX) AR.out).mono ?_); rintro e w3 ⟨rfl, h3⟩; replace hX := Ext.trans hX h3; replace AR := Lib.hid (AR.out.ext h3); clear h3)
    | (go_at_call 18; (with_reducible refine (read_is (a := a) p g _ 0 (N : Nat) _ _ K2.out.1 K2.out.2 _ (H.out _ hX) AR.out).mono ?_); rintro e w3 ⟨rfl, h3⟩; replace hX := Ext.trans hX h3; replace AR := Lib.hid (AR.out.ext h3); clear h3)
    | (go_at_call 18; (with_reducible refine (read_is (a := a) p g _ (x : Nat) (S.length : Nat) _ _ K3.out.1 K3.out.2 _ (H.out _ hX) AR.out).mono ?_); rintro e w3 ⟨rfl, h3⟩; replace hX := Ext.trans hX h3; replace AR := Lib.hid (AR.out.ext h3); clear h3)
    | (go_at_call 22; refine (write_ok (a := a) p g L (x : Nat) S hb.out _ (H.out _ hX) AR.out).mono ?_; rintro e w3 ⟨rfl, hc, hA⟩; replace hX := Chg.below hX hc hX.size HP.out.2; rw [Int.toNat_natCast, HL2.out] at hA; replace AR := Lib.hid hA; clear hc hA))
  refine wp_region_on (by kernel_rfl) (by kernel_rfl) ?_
  repeat (go_big_quiet_step (fail))
  refine wpQuiet_nil ?_
  intro W hW
  go_wp2
  go_ret
  exact ⟨rfl, Ext.trans hX hW⟩
set_option maxHeartbeats 4000000 in
set_option maxRecDepth 100000 in
theorem back_none1 (b : Int) (A : Option Addr) (n c : Nat) (x : Int) (S0 S : List UInt8) (hS : S0.take 200 = S) (_hS0 : S0.length ≤ maxLen) (hs0 : ¬ S0.length ≤ 200) (w : World) (hG : G a w) (hM : ∀ W, Ext w W → Calls Tryd.prog 21 #[.int .i64 b, .slice A n c] W (fun e w' => e = .returned (.tuple #[.pointer none, .bool false]) ∧ Ext W w')) :
    Calls Tryd.prog 4 #[.int .i64 b, .slice A n c, .int .i64 x, .string ⟨S0.toArray⟩] w fun e w' => e = .returned (.bool true) ∧ Ext w w' := by
  have SH := Lib.hid (shown_any (a := a) w hG)
  have H := Lib.hid (fun W (hW : Ext w W) => hG.ext hW)
  have M := Lib.hid hM
  have hs1 : ¬ (S0.length : Int) ≤ 200 := by omega
  have hex : ByteArray.extract ⟨S0.toArray⟩ 0 200 = ⟨S.toArray⟩ := by rw [← hS]; exact extract_take S0 200
  have hsz : (⟨S.toArray⟩ : ByteArray).size = S.length := by simp [ByteArray.size]
  clear hS hs0
  clear hG hM
  go_enter Tryd.func4, Tryd.ntmps4
  go_wp2_with (first
    | (go_at_call 10; refine (SH.out).mono ?_; rintro e w1 ⟨rfl, hX⟩)
    | (go_at_call 21; refine (M.out _ hX).mono ?_; rintro e w2 ⟨rfl, h2⟩; replace hX := Ext.trans hX h2; clear h2))
  go_ret
  exact ⟨rfl, hX⟩
set_option maxHeartbeats 4000000 in
set_option maxRecDepth 100000 in
theorem back_neg1 (L : List UInt8) (N : Nat) (hN : L.length = N) (hL : N ≤ 131072) (b : Int) (A : Option Addr) (n c : Nat) (x : Int) (S0 S : List UInt8) (hS : S0.take 200 = S) (_hS0 : S0.length ≤ maxLen) (hs0 : ¬ S0.length ≤ 200) (x0 : x < 0) (w : World) (hG : G a w) (hM : ∀ W, Ext w W → Calls Tryd.prog 21 #[.int .i64 b, .slice A n c] W (MadeP W L)) :
    Calls Tryd.prog 4 #[.int .i64 b, .slice A n c, .int .i64 x, .string ⟨S0.toArray⟩] w fun e w' => e = .returned (.bool true) ∧ Ext w w' := by
  have SH := Lib.hid (shown_any (a := a) w hG)
  have H := Lib.hid (fun W (hW : Ext w W) => hG.ext hW)
  have M := Lib.hid hM
  have hs1 : ¬ (S0.length : Int) ≤ 200 := by omega
  have hex : ByteArray.extract ⟨S0.toArray⟩ 0 200 = ⟨S.toArray⟩ := by rw [← hS]; exact extract_take S0 200
  have hsz : (⟨S.toArray⟩ : ByteArray).size = S.length := by simp [ByteArray.size]
  have hSl : S.length ≤ 200 := by rw [← hS]; simp; omega
  have hN0 : (N : Int) ≤ 131072 := by omega
  have hn := Lib.hid (show (L.length : Int) = (N : Nat) by omega)
  have K := Lib.hid (rd_all L N hN)
  have hb := Lib.hid (show ¬ (0 ≤ x ∧ x + S.length ≤ L.length) by omega)
  have hl1 : (L.length : Int) = N := by omega
  clear hN
  clear hS hs0
  clear hG hM
  go_enter Tryd.func4, Tryd.ntmps4
  go_wp2_with (first
    | (go_at_call 10; refine (SH.out).mono ?_; rintro e w1 ⟨rfl, hX⟩)
    | (go_at_call 21; refine (M.out _ hX).mono ?_; rintro e w2 ⟨p, g, rfl, hp, hg, h2, hA⟩; have HP := Lib.hid (And.intro (Nat.le_trans hX.size hp) (Nat.le_trans hX.size hg)); replace hX := Ext.trans hX h2; have AR := Lib.hid hA; clear h2 hp hg hA)
    | (go_at_call 14; (with_reducible refine (size_is (a := a) p g _ _ hn.out _ (H.out _ hX) AR.out).mono ?_); rintro e w3 ⟨rfl, h3⟩; replace hX := Ext.trans hX h3; replace AR := Lib.hid (AR.out.ext h3); clear h3)
    | (go_at_call 18; (with_reducible refine (read_is (a := a) p g _ 0 (N : Nat) _ _ K.out.1 K.out.2 _ (H.out _ hX) AR.out).mono ?_); rintro e w3 ⟨rfl, h3⟩; replace hX := Ext.trans hX h3; replace AR := Lib.hid (AR.out.ext h3); clear h3)
    | (go_at_call 22; refine (write_no (a := a) p g L x S hb.out _ (H.out _ hX) AR.out).mono ?_; rintro e w3 ⟨rfl, h3⟩; replace hX := Ext.trans hX h3; replace AR := Lib.hid (AR.out.ext h3); clear h3))
  go_ret
  exact ⟨rfl, hX⟩
set_option maxHeartbeats 4000000 in
set_option maxRecDepth 100000 in
theorem back_big1 (L : List UInt8) (N : Nat) (hN : L.length = N) (hL : N ≤ 131072) (b : Int) (A : Option Addr) (n c : Nat) (x : Int) (S0 S : List UInt8) (hS : S0.take 200 = S) (_hS0 : S0.length ≤ maxLen) (hs0 : ¬ S0.length ≤ 200) (x0 : 0 ≤ x) (x1 : N < x + S.length) (w : World) (hG : G a w) (hM : ∀ W, Ext w W → Calls Tryd.prog 21 #[.int .i64 b, .slice A n c] W (MadeP W L)) :
    Calls Tryd.prog 4 #[.int .i64 b, .slice A n c, .int .i64 x, .string ⟨S0.toArray⟩] w fun e w' => e = .returned (.bool true) ∧ Ext w w' := by
  have SH := Lib.hid (shown_any (a := a) w hG)
  have H := Lib.hid (fun W (hW : Ext w W) => hG.ext hW)
  have M := Lib.hid hM
  have hs1 : ¬ (S0.length : Int) ≤ 200 := by omega
  have hex : ByteArray.extract ⟨S0.toArray⟩ 0 200 = ⟨S.toArray⟩ := by rw [← hS]; exact extract_take S0 200
  have hsz : (⟨S.toArray⟩ : ByteArray).size = S.length := by simp [ByteArray.size]
  have hSl : S.length ≤ 200 := by rw [← hS]; simp; omega
  have hN0 : (N : Int) ≤ 131072 := by omega
  have hn := Lib.hid (show (L.length : Int) = (N : Nat) by omega)
  have K := Lib.hid (rd_all L N hN)
  have hb := Lib.hid (show ¬ (0 ≤ x ∧ x + S.length ≤ L.length) by omega)
  have x2 : (N : Int) - S.length < x := by omega
  have hl1 : (L.length : Int) = N := by omega
  clear hN
  clear hS hs0
  clear hG hM
  go_enter Tryd.func4, Tryd.ntmps4
  go_wp2_with (first
    | (go_at_call 10; refine (SH.out).mono ?_; rintro e w1 ⟨rfl, hX⟩)
    | (go_at_call 21; refine (M.out _ hX).mono ?_; rintro e w2 ⟨p, g, rfl, hp, hg, h2, hA⟩; have HP := Lib.hid (And.intro (Nat.le_trans hX.size hp) (Nat.le_trans hX.size hg)); replace hX := Ext.trans hX h2; have AR := Lib.hid hA; clear h2 hp hg hA)
    | (go_at_call 14; (with_reducible refine (size_is (a := a) p g _ _ hn.out _ (H.out _ hX) AR.out).mono ?_); rintro e w3 ⟨rfl, h3⟩; replace hX := Ext.trans hX h3; replace AR := Lib.hid (AR.out.ext h3); clear h3)
    | (go_at_call 18; (with_reducible refine (read_is (a := a) p g _ 0 (N : Nat) _ _ K.out.1 K.out.2 _ (H.out _ hX) AR.out).mono ?_); rintro e w3 ⟨rfl, h3⟩; replace hX := Ext.trans hX h3; replace AR := Lib.hid (AR.out.ext h3); clear h3)
    | (go_at_call 22; refine (write_no (a := a) p g L x S hb.out _ (H.out _ hX) AR.out).mono ?_; rintro e w3 ⟨rfl, h3⟩; replace hX := Ext.trans hX h3; replace AR := Lib.hid (AR.out.ext h3); clear h3))
  go_ret
  exact ⟨rfl, hX⟩
set_option maxHeartbeats 4000000 in
set_option maxRecDepth 100000 in
theorem back_ok1 (L : List UInt8) (N : Nat) (hN : L.length = N) (hL : N ≤ 131072) (b : Int) (A : Option Addr) (n c : Nat) (x : Nat) (S0 S : List UInt8) (hS : S0.take 200 = S) (_hS0 : S0.length ≤ maxLen) (hs0 : ¬ S0.length ≤ 200) (x1 : x + S.length ≤ N) (w : World) (hG : G a w) (hM : ∀ W, Ext w W → Calls Tryd.prog 21 #[.int .i64 b, .slice A n c] W (MadeP W L)) :
    Calls Tryd.prog 4 #[.int .i64 b, .slice A n c, .int .i64 (x : Nat), .string ⟨S0.toArray⟩] w fun e w' => e = .returned (.bool true) ∧ Ext w w' := by
  have SH := Lib.hid (shown_any (a := a) w hG)
  have H := Lib.hid (fun W (hW : Ext w W) => hG.ext hW)
  have M := Lib.hid hM
  have hs1 : ¬ (S0.length : Int) ≤ 200 := by omega
  have hex : ByteArray.extract ⟨S0.toArray⟩ 0 200 = ⟨S.toArray⟩ := by rw [← hS]; exact extract_take S0 200
  have hsz : (⟨S.toArray⟩ : ByteArray).size = S.length := by simp [ByteArray.size]
  have hSl : S.length ≤ 200 := by rw [← hS]; simp; omega
  have hN0 : (N : Int) ≤ 131072 := by omega
  have hn := Lib.hid (show (L.length : Int) = (N : Nat) by omega)
  have K := Lib.hid (rd_all L N hN)
  have hb := Lib.hid (show 0 ≤ (x : Int) ∧ (x : Int) + S.length ≤ L.length by omega)
  have x2 : ¬ (N : Int) - S.length < x := by omega
  obtain ⟨L2, hL2⟩ : ∃ L2, lay L x S = L2 := ⟨_, rfl⟩
  have hl2 : L2.length = N := by rw [← hL2, lay_len _ _ _ (by omega), hN]
  have K2 := Lib.hid (rd_all L2 N hl2)
  have K3 := Lib.hid (show rdS L2 (x : Nat) (S.length : Nat) = S ∧ rdE L2 (x : Nat) (S.length : Nat) = 0 by
    have := rd_ok (L := L2) (x := (x : Int)) (y := (S.length : Int)) ⟨by omega, by omega, by omega⟩
    rw [Int.toNat_natCast, Int.toNat_natCast, ← hL2, cut_lay L x S (by omega), hL2] at this
    exact this)
  have hn2 := Lib.hid (show (L2.length : Int) = (N : Nat) by omega)
  have HL2 := Lib.hid hL2
  have t1 := ext_take L x
  have t2 : (⟨(L.take x).toArray⟩ ++ ⟨S.toArray⟩ : ByteArray) = ⟨(L.take x ++ S).toArray⟩ := str_app _ _
  have t3 := ext_drop L (x + S.length) N hN
  have t4 : (⟨(L.take x ++ S).toArray⟩ ++ ⟨(L.drop (x + S.length)).toArray⟩ : ByteArray) = ⟨L2.toArray⟩ := by rw [str_app, ← hL2]; unfold lay splice; rw [List.append_assoc]
  have x3 : (x : Int) ≤ N := by omega
  have x4 : (x : Int) + S.length ≤ N := by omega
  have x5 : (x : Int) + S.length ≤ 131072 := by omega
  have hl1 : (L.length : Int) = N := by omega
  have hl3 : (L2.length : Int) = N := by omega
  clear hL2
  clear hS hs0
  clear hG hM
  go_enter Tryd.func4, Tryd.ntmps4
  go_wp2_with (first
    | (go_at_call 10; refine (SH.out).mono ?_; rintro e w1 ⟨rfl, hX⟩)
    | (go_at_call 21; refine (M.out _ hX).mono ?_; rintro e w2 ⟨p, g, rfl, hp, hg, h2, hA⟩; have HP := Lib.hid (And.intro (Nat.le_trans hX.size hp) (Nat.le_trans hX.size hg)); replace hX := Ext.trans hX h2; have AR := Lib.hid hA; clear h2 hp hg hA)
    | (go_at_call 14; (with_reducible refine (size_is (a := a) p g _ _ hn.out _ (H.out _ hX) AR.out).mono ?_); rintro e w3 ⟨rfl, h3⟩; replace hX := Ext.trans hX h3; replace AR := Lib.hid (AR.out.ext h3); clear h3)
    | (go_at_call 14; (with_reducible refine (size_is (a := a) p g _ _ hn2.out _ (H.out _ hX) AR.out).mono ?_); rintro e w3 ⟨rfl, h3⟩; replace hX := Ext.trans hX h3; replace AR := Lib.hid (AR.out.ext h3); clear h3)
    | (go_at_call 18; (with_reducible refine (read_is (a := a) p g _ 0 (N : Nat) _ _ K.out.1 K.out.2 _ (H.out _ hX) AR.out).mono ?_); rintro e w3 ⟨rfl, h3⟩; replace hX := Ext.trans hX h3; replace AR := Lib.hid (AR.out.ext h3); clear h3)
    | (go_at_call 18; (with_reducible refine (read_is (a := a) p g _ 0 (N : Nat) _ _ K2.out.1 K2.out.2 _ (H.out _ hX) AR.out).mono ?_); rintro e w3 ⟨rfl, h3⟩; replace hX := Ext.trans hX h3; replace AR := Lib.hid (AR.out.ext h3); clear h3)
    | (go_at_call 18; (with_reducible refine (read_is (a := a) p g _ (x : Nat) (S.length : Nat) _ _ K3.out.1 K3.out.2 _ (H.out _ hX) AR.out).mono ?_); rintro e w3 ⟨rfl, h3⟩; replace hX := Ext.trans hX h3; replace AR := Lib.hid (AR.out.ext h3); clear h3)
    | (go_at_call 22; refine (write_ok (a := a) p g L (x : Nat) S hb.out _ (H.out _ hX) AR.out).mono ?_; rintro e w3 ⟨rfl, hc, hA⟩; replace hX := Chg.below hX hc hX.size HP.out.2; rw [Int.toNat_natCast, HL2.out] at hA; replace AR := Lib.hid hA; clear hc hA))
  refine wp_region_on (by kernel_rfl) (by kernel_rfl) ?_
  repeat (go_big_quiet_step (fail))
  refine wpQuiet_nil ?_
  intro W hW
  go_wp2
  go_ret
  exact ⟨rfl, Ext.trans hX hW⟩
theorem back_walk (b : Int) (A : Option Addr) (n c : Nat) (xs : List OpR) (x : Int) (S0 : List UInt8) (hb : -9223372036854775808 ≤ b ∧ b ≤ 9223372036854775807) (_hx : -9223372036854775808 ≤ x ∧ x ≤ 9223372036854775807) (hS0 : S0.length ≤ maxLen) (w : World) (hO : OpsAt w A n xs) (hG : G a w) :
    Calls Tryd.prog 4 #[.int .i64 b, .slice A n c, .int .i64 x, .string ⟨S0.toArray⟩] w fun e w' => e = .returned (.bool true) ∧ Ext w w' := by
  by_cases hb1 : 1 ≤ b ∧ b ≤ 32
  · obtain ⟨b, rfl⟩ : ∃ k : Nat, b = k := ⟨b.toNat, by omega⟩
    obtain ⟨L, hL, hM⟩ := made_L (a := a) b (by omega) (by omega) A n c xs w hO hG
    by_cases hs : S0.length ≤ 200
    · by_cases x0 : x < 0
      · exact back_neg0 L _ rfl (by omega) b A n c x S0 _ rfl hS0 hs x0 w hG hM
      · by_cases x1 : (L.length : Int) < x + (S0.take 200).length
        · exact back_big0 L _ rfl (by omega) b A n c x S0 _ rfl hS0 hs (by omega) x1 w hG hM
        · obtain ⟨x, rfl⟩ : ∃ k : Nat, x = k := ⟨x.toNat, by omega⟩
          exact back_ok0 L _ rfl (by omega) b A n c x S0 _ rfl hS0 hs (by omega) w hG hM
    · by_cases x0 : x < 0
      · exact back_neg1 L _ rfl (by omega) b A n c x S0 _ rfl hS0 hs x0 w hG hM
      · by_cases x1 : (L.length : Int) < x + (S0.take 200).length
        · exact back_big1 L _ rfl (by omega) b A n c x S0 _ rfl hS0 hs (by omega) x1 w hG hM
        · obtain ⟨x, rfl⟩ : ∃ k : Nat, x = k := ⟨x.toNat, by omega⟩
          exact back_ok1 L _ rfl (by omega) b A n c x S0 _ rfl hS0 hs (by omega) w hG hM
  · by_cases hs : S0.length ≤ 200
    · exact back_none0 b A n c x S0 _ rfl hS0 hs w hG (fun W hW => made_no (a := a) b hb1 hb _ W (hG.ext hW))
    · exact back_none1 b A n c x S0 _ rfl hS0 hs w hG (fun W hW => made_no (a := a) b hb1 hb _ W (hG.ext hW))
end
end Go.Proofs.YtmehoieijelncaaDoor
