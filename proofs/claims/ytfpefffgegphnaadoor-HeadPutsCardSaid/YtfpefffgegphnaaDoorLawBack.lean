/- selionlaw06.HeadBack (made by gen_back.py). -/
import Derived.Test.YtfpefffgegphnaaDoorShownH
import Derived.Test.YtfpefffgegphnaaDoorGetH
import Derived.Test.YtfpefffgegphnaaDoorLawApart
namespace Go.Proofs.YtfpefffgegphnaaDoor
open Go.RowKit Go
namespace H
open HD
theorem neq_mark (m m' : MkR) (w : World) : (binOp .neq 23 (mkV m) (mkV m')).run Tryd.prog w = .ok (.bool (!decide (m = m'))) w := by
  obtain ⟨k, l, c, e⟩ := m
  obtain ⟨k', l', c', e'⟩ := m'
  simp only [MkR.mk.injEq]
  simp [go_sem, mkV]
  by_cases h1 : k = k' <;> by_cases h2 : l = l' <;> by_cases h3 : c = c' <;> by_cases h4 : e = e' <;> simp [*]
theorem neq_self (m : MkR) (w : World) : (binOp .neq 23 (mkV m) (mkV m)).run Tryd.prog w = .ok (.bool false) w := by
  rw [neq_mark, decide_eq_true rfl]; rfl
theorem eql_self (m : MkR) (w : World) : (binOp .eql 23 (mkV m) (mkV m)).run Tryd.prog w = .ok (.bool true) w := by
  rw [eql_mark, decide_eq_true rfl]
theorem cut_lay (L : List UInt8) (x : Nat) (S : List UInt8) (h : x + S.length ≤ L.length) : cut (lay L x S) x S.length = S := by
  have hl : (L.take x).length = x := by simp; omega
  unfold cut lay splice
  rw [List.drop_append_of_le_length (by omega), List.drop_of_length_le (by omega), List.nil_append, List.take_append_of_le_length (by omega), List.take_length]
theorem nz_zeros (n : Nat) : nz (List.replicate n 0) = 0 := by
  unfold nz; rw [List.countP_replicate]; simp
/-- What is put is got. -/
theorem put_got {L : List UInt8} {x : Int} {m : MkR} (hr : rightM m = true) (hx : x % 8 = 0) (hok : okA L x 8) :
    putE L x m = 0 ∧ getM (putL L x m) x = m ∧ getE (putL L x m) x = 0 ∧ okA (putL L x m) x 8 ∧ cut (putL L x m) x.toNat 8 = encS m := by
  have hw : putL L x m = lay L x.toNat (encS m) := by unfold putL wrL; rw [if_pos ⟨hr, hx⟩, if_pos (by rw [enc_len]; exact hok)]
  have hl : (putL L x m).length = L.length := by unfold putL; split <;> simp [wrL_len]
  have ho : okA (putL L x m) x 8 := by unfold okA at hok ⊢; rw [hl]; exact hok
  have hc : cut (putL L x m) x.toNat 8 = encS m := by rw [hw]; exact cut_lay L x.toNat (encS m) (by rw [enc_len]; unfold okA at hok; omega)
  refine ⟨?_, ?_, ?_, ho, hc⟩
  · unfold putE rdE; rw [if_pos hr, if_pos hx, if_pos hok]
  · unfold getM; rw [if_pos ⟨hx, ho⟩, hc]; exact (dec_enc hr).1
  · unfold getE; rw [if_pos ⟨hx, ho⟩, hc]; exact (dec_enc hr).2
theorem put_bad {L : List UInt8} {x : Int} {m : MkR} (hr : rightM m = true) (h : ¬ (x % 8 = 0 ∧ okA L x 8)) : putE L x m = 10 ∧ putL L x m = L := by
  unfold putE putL
  by_cases hx : x % 8 = 0
  · have ho : ¬ okA L x 8 := fun k => h ⟨hx, k⟩
    rw [if_pos hr, if_pos hx, if_pos ⟨hr, hx⟩, rdE, wrL, if_neg ho, if_neg (by rw [enc_len]; exact ho)]; exact ⟨rfl, rfl⟩
  · rw [if_pos hr, if_neg hx, if_neg (fun k => hx k.2)]; exact ⟨rfl, rfl⟩
theorem put_wrong {L : List UInt8} {x : Int} {m : MkR} (hr : rightM m = false) : putE L x m = 60 ∧ putL L x m = L := by
  unfold putE putL
  rw [if_neg (by rw [hr]; decide), if_neg (by rw [hr]; simp)]; exact ⟨rfl, rfl⟩
theorem jg_ext {w W : World} (h : JG w) (hW : Ext w W) : JG W := by
  obtain ⟨a0, a2, a3, h⟩ := h
  exact ⟨a0, a2, a3, h.ext hW⟩
section
variable {a b : Nat → Addr}
set_option maxHeartbeats 2000000 in
set_option maxRecDepth 100000 in
theorem back_none0 (y : Int) (hy : ¬ (1 ≤ y ∧ y ≤ 32)) (hy' : -9223372036854775808 ≤ y ∧ y ≤ 9223372036854775807) (x : Int) (m : MkR) (hr : rightM m = false) (w : World) (hG : G a b w) (hJ : JG w) :
    Calls Tryd.prog 5 #[.int .i64 y, .int .i64 x, mkV m] w fun e w' => e = .returned (.bool true) ∧ Ext w w' := by
  have E1 := ext1 w (.cells (mkC m) 23)
  have b1 := Blk.new w (mkC m) 23
  have S := Lib.hid (shown_is _ (hG.ext E1))
  have C1 := Lib.hid (fun W (hW : Ext w W) => encode_is m W (hG.ext hW))
  have D1 := Lib.hid (fun W (hW : Ext w W) => decode_is (encV m) W (hG.ext hW))
  rw [(enc_of_no hr).1] at D1
  rw [(enc_of_no hr).1, (enc_of_no hr).2] at C1
  generalize decM [] = M at *
  generalize decE [] = DE at *
  have N := Lib.hid (fun W (hW : Ext w W) => new_no (a := a) y hy hy' W (hG.ext hW).g (jg_ext hJ hW))
  have HE := Lib.hid (And.intro E1 b1)
  clear E1 b1 hG hJ hr hy'
  go_enter Tryd.func5, Tryd.ntmps5
  go_wp2_with (first
    | (go_at_call 9; refine S.out.mono ?_; rintro e w1 ⟨rfl, hX⟩; obtain ⟨p0, p1, p2, p3⟩ := cells_mk (HE.out.2.ext hX); clear S)
    | (go_at_call 10; refine (C1.out _ (Ext.trans HE.out.1 hX)).mono ?_; rintro e w2 ⟨rfl, h2⟩; replace hX := Ext.trans hX h2; clear p0 p1 p2 p3 C1 h2)
    | (go_at_call 12; refine (D1.out _ (Ext.trans HE.out.1 hX)).mono ?_; rintro e w3 ⟨rfl, h3⟩; have B3 := Lib.hid (Blk.new w3 (mkC M) 23); obtain ⟨q0, q1, q2, q3⟩ := cells_mk B3.out; replace hX := Ext.trans (Ext.trans hX h3) (ext1 w3 (.cells (mkC M) 23)); obtain ⟨p0, p1, p2, p3⟩ := cells_mk (HE.out.2.ext hX); clear D1 h3)
    | (go_at_call 19; refine (N.out _ (Ext.trans HE.out.1 hX)).mono ?_; rintro e w4 ⟨rfl, h4⟩; replace hX := Ext.trans hX h4; clear h4))
  go_ret
  first | exact ⟨rfl, Ext.trans HE.out.1 hX⟩ | exact ⟨ret_bool (by simp), Ext.trans HE.out.1 hX⟩
set_option maxHeartbeats 2000000 in
set_option maxRecDepth 100000 in
theorem back_none1 (y : Int) (hy : ¬ (1 ≤ y ∧ y ≤ 32)) (hy' : -9223372036854775808 ≤ y ∧ y ≤ 9223372036854775807) (x : Int) (m : MkR) (hr : rightM m = true) (w : World) (hG : G a b w) (hJ : JG w) :
    Calls Tryd.prog 5 #[.int .i64 y, .int .i64 x, mkV m] w fun e w' => e = .returned (.bool true) ∧ Ext w w' := by
  have E1 := ext1 w (.cells (mkC m) 23)
  have b1 := Blk.new w (mkC m) 23
  have S := Lib.hid (shown_is _ (hG.ext E1))
  have C1 := Lib.hid (fun W (hW : Ext w W) => encode_is m W (hG.ext hW))
  have D1 := Lib.hid (fun W (hW : Ext w W) => decode_is (encV m) W (hG.ext hW))
  rw [(enc_of_ok hr).1, (dec_enc hr).1, (dec_enc hr).2] at D1
  rw [(enc_of_ok hr).1, (enc_of_ok hr).2] at C1
  have N := Lib.hid (fun W (hW : Ext w W) => new_no (a := a) y hy hy' W (hG.ext hW).g (jg_ext hJ hW))
  obtain ⟨X, hX⟩ : ∃ X : ByteArray, ⟨(encS m).toArray⟩ = X := ⟨_, rfl⟩
  have sx := size_enc hX
  have nq := fun W => neq_self m W
  rw [hX] at C1 D1
  clear hX
  have HE := Lib.hid (And.intro E1 b1)
  clear E1 b1 hG hJ hr hy'
  go_enter Tryd.func5, Tryd.ntmps5
  go_wp2_with (first
    | (go_at_call 9; refine S.out.mono ?_; rintro e w1 ⟨rfl, hX⟩; obtain ⟨p0, p1, p2, p3⟩ := cells_mk (HE.out.2.ext hX); clear S)
    | (go_at_call 10; refine (C1.out _ (Ext.trans HE.out.1 hX)).mono ?_; rintro e w2 ⟨rfl, h2⟩; replace hX := Ext.trans hX h2; clear p0 p1 p2 p3 C1 h2)
    | (go_at_call 12; refine (D1.out _ (Ext.trans HE.out.1 hX)).mono ?_; rintro e w3 ⟨rfl, h3⟩; have B3 := Lib.hid (Blk.new w3 (mkC m) 23); obtain ⟨q0, q1, q2, q3⟩ := cells_mk B3.out; replace hX := Ext.trans (Ext.trans hX h3) (ext1 w3 (.cells (mkC m) 23)); obtain ⟨p0, p1, p2, p3⟩ := cells_mk (HE.out.2.ext hX); clear D1 h3)
    | (go_at_call 19; refine (N.out _ (Ext.trans HE.out.1 hX)).mono ?_; rintro e w4 ⟨rfl, h4⟩; replace hX := Ext.trans hX h4; clear h4))
  go_ret
  first | exact ⟨rfl, Ext.trans HE.out.1 hX⟩ | exact ⟨ret_bool (by simp), Ext.trans HE.out.1 hX⟩
set_option maxHeartbeats 2000000 in
set_option maxRecDepth 100000 in
theorem back_wrong (n : Nat) (n1 : 1 ≤ n) (n2 : n ≤ 32) (x : Int) (m : MkR) (hr : rightM m = false) (w : World) (hG : G a b w) (hJ : JG w) :
    Calls Tryd.prog 5 #[.int .i64 (n : Nat), .int .i64 x, mkV m] w fun e w' => e = .returned (.bool true) ∧ Ext w w' := by
  have E1 := ext1 w (.cells (mkC m) 23)
  have b1 := Blk.new w (mkC m) 23
  have S := Lib.hid (shown_is _ (hG.ext E1))
  have C1 := Lib.hid (fun W (hW : Ext w W) => encode_is m W (hG.ext hW))
  have D1 := Lib.hid (fun W (hW : Ext w W) => decode_is (encV m) W (hG.ext hW))
  rw [(enc_of_no hr).1] at D1
  rw [(enc_of_no hr).1, (enc_of_no hr).2] at C1
  generalize decM [] = M at *
  generalize decE [] = DE at *
  have N := Lib.hid (fun W (hW : Ext w W) => new_ok (a := a) n n1 n2 W (hG.ext hW).g (jg_ext hJ hW))
  obtain ⟨L, hL⟩ : ∃ L : List UInt8, List.replicate (4096 * n) 0 = L := ⟨_, rfl⟩
  obtain ⟨u1, u2⟩ := put_wrong (L := List.replicate (4096 * n) 0) (x := x) hr
  have PU := Lib.hid (fun p g W (hW : Ext w W) hA => put_is (a := a) (b := b) p g (List.replicate (4096 * n) 0) m x W (hG.ext hW) hA)
  rw [u1, u2] at PU
  have GE := Lib.hid (fun p g W (hW : Ext w W) hA => get_is (a := a) (b := b) p g (List.replicate (4096 * n) 0) x W (hG.ext hW) hA)
  generalize getM (List.replicate (4096 * n) 0) x = GM at *
  generalize getE (List.replicate (4096 * n) 0) x = gE at *
  have CT := Lib.hid (fun p g W (hW : Ext w W) hA => count_any (a := a) p g (List.replicate (4096 * n) 0) W (hG.ext hW).g hA)
  rw [nz_zeros] at CT
  have RI := Lib.hid (fun W (hW : Ext w W) => right_is m W (hG.ext hW))
  rw [hr] at RI
  unfold NewR at N
  rw [hL] at N PU GE CT
  have HE := Lib.hid (And.intro E1 b1)
  clear E1 b1 hG hJ hr hL n1 n2 u1 u2
  go_enter Tryd.func5, Tryd.ntmps5
  go_wp2_with (first
    | (go_at_call 9; refine S.out.mono ?_; rintro e w1 ⟨rfl, hX⟩; obtain ⟨p0, p1, p2, p3⟩ := cells_mk (HE.out.2.ext hX); clear S)
    | (go_at_call 10; refine (C1.out _ (Ext.trans HE.out.1 hX)).mono ?_; rintro e w2 ⟨rfl, h2⟩; replace hX := Ext.trans hX h2; clear p0 p1 p2 p3 C1 h2)
    | (go_at_call 12; refine (D1.out _ (Ext.trans HE.out.1 hX)).mono ?_; rintro e w3 ⟨rfl, h3⟩; have B3 := Lib.hid (Blk.new w3 (mkC M) 23); obtain ⟨q0, q1, q2, q3⟩ := cells_mk B3.out; replace hX := Ext.trans (Ext.trans hX h3) (ext1 w3 (.cells (mkC M) 23)); obtain ⟨p0, p1, p2, p3⟩ := cells_mk (HE.out.2.ext hX); clear D1 h3)
    | (go_at_call 19; refine (N.out _ (Ext.trans HE.out.1 hX)).mono ?_; rintro e w4 ⟨p, g, rfl, hp, hg, h4, hA⟩; have HP := Lib.hid (And.intro (Nat.le_trans hX.size hp) (Nat.le_trans hX.size hg)); replace hX := Ext.trans hX h4; have AR := Lib.hid hA; clear p0 p1 p2 p3 q0 q1 q2 q3; obtain ⟨p0, p1, p2, p3⟩ := cells_mk (HE.out.2.ext hX); clear h4 hp hg hA)
    | (go_at_call 22; refine (PU.out p g _ (Ext.trans HE.out.1 hX) AR.out).mono ?_; rintro e w5 ⟨rfl, hc, hA⟩; replace hX := Chg.below hX hc hX.size HP.out.2; replace AR := Lib.hid hA; clear p0 p1 p2 p3 hc hA)
    | (go_at_call 21; refine (GE.out p g _ (Ext.trans HE.out.1 hX) AR.out).mono ?_; rintro e w6 ⟨rfl, h6⟩; have B6 := Lib.hid (Blk.new w6 (mkC GM) 23); replace AR := Lib.hid ((AR.out.ext h6).ext (ext1 w6 (.cells (mkC GM) 23))); replace hX := Ext.trans (Ext.trans hX h6) (ext1 w6 (.cells (mkC GM) 23)); obtain ⟨p0, p1, p2, p3⟩ := cells_mk (HE.out.2.ext hX); clear h6)
    | (go_at_call 15; refine (RI.out _ (Ext.trans HE.out.1 hX)).mono ?_; rintro e w7 ⟨rfl, h7⟩; replace hX := Ext.trans hX h7; replace AR := Lib.hid (AR.out.ext h7); clear p0 p1 p2 p3 h7)
    | (go_at_call 29; refine (CT.out p g _ (Ext.trans HE.out.1 hX) AR.out).mono ?_; rintro e w8 ⟨rfl, h8⟩; replace hX := Ext.trans hX h8; clear h8))
  go_ret
  first | exact ⟨rfl, Ext.trans HE.out.1 hX⟩ | exact ⟨ret_bool (by simp), Ext.trans HE.out.1 hX⟩
set_option maxHeartbeats 2000000 in
set_option maxRecDepth 100000 in
theorem back_bad (n : Nat) (n1 : 1 ≤ n) (n2 : n ≤ 32) (x : Int) (m : MkR) (hr : rightM m = true) (hb : ¬ (x % 8 = 0 ∧ okA (List.replicate (4096 * n) 0) x 8)) (w : World) (hG : G a b w) (hJ : JG w) :
    Calls Tryd.prog 5 #[.int .i64 (n : Nat), .int .i64 x, mkV m] w fun e w' => e = .returned (.bool true) ∧ Ext w w' := by
  have E1 := ext1 w (.cells (mkC m) 23)
  have b1 := Blk.new w (mkC m) 23
  have S := Lib.hid (shown_is _ (hG.ext E1))
  have C1 := Lib.hid (fun W (hW : Ext w W) => encode_is m W (hG.ext hW))
  have D1 := Lib.hid (fun W (hW : Ext w W) => decode_is (encV m) W (hG.ext hW))
  rw [(enc_of_ok hr).1, (dec_enc hr).1, (dec_enc hr).2] at D1
  rw [(enc_of_ok hr).1, (enc_of_ok hr).2] at C1
  have N := Lib.hid (fun W (hW : Ext w W) => new_ok (a := a) n n1 n2 W (hG.ext hW).g (jg_ext hJ hW))
  obtain ⟨L, hL⟩ : ∃ L : List UInt8, List.replicate (4096 * n) 0 = L := ⟨_, rfl⟩
  obtain ⟨u1, u2⟩ := put_bad (L := List.replicate (4096 * n) 0) (x := x) hr hb
  have PU := Lib.hid (fun p g W (hW : Ext w W) hA => put_is (a := a) (b := b) p g (List.replicate (4096 * n) 0) m x W (hG.ext hW) hA)
  rw [u1, u2] at PU
  have GE := Lib.hid (fun p g W (hW : Ext w W) hA => get_is (a := a) (b := b) p g (List.replicate (4096 * n) 0) x W (hG.ext hW) hA)
  generalize getM (List.replicate (4096 * n) 0) x = GM at *
  generalize getE (List.replicate (4096 * n) 0) x = gE at *
  have CT := Lib.hid (fun p g W (hW : Ext w W) hA => count_any (a := a) p g (List.replicate (4096 * n) 0) W (hG.ext hW).g hA)
  rw [nz_zeros] at CT
  have RI := Lib.hid (fun W (hW : Ext w W) => right_is m W (hG.ext hW))
  rw [hr] at RI
  unfold NewR at N
  rw [hL] at N PU GE CT
  obtain ⟨X, hX⟩ : ∃ X : ByteArray, ⟨(encS m).toArray⟩ = X := ⟨_, rfl⟩
  have sx := size_enc hX
  have nq := fun W => neq_self m W
  rw [hX] at C1 D1
  clear hX
  have HE := Lib.hid (And.intro E1 b1)
  clear E1 b1 hG hJ hr hL n1 n2 u1 u2 hb
  go_enter Tryd.func5, Tryd.ntmps5
  go_wp2_with (first
    | (go_at_call 9; refine S.out.mono ?_; rintro e w1 ⟨rfl, hX⟩; obtain ⟨p0, p1, p2, p3⟩ := cells_mk (HE.out.2.ext hX); clear S)
    | (go_at_call 10; refine (C1.out _ (Ext.trans HE.out.1 hX)).mono ?_; rintro e w2 ⟨rfl, h2⟩; replace hX := Ext.trans hX h2; clear p0 p1 p2 p3 C1 h2)
    | (go_at_call 12; refine (D1.out _ (Ext.trans HE.out.1 hX)).mono ?_; rintro e w3 ⟨rfl, h3⟩; have B3 := Lib.hid (Blk.new w3 (mkC m) 23); obtain ⟨q0, q1, q2, q3⟩ := cells_mk B3.out; replace hX := Ext.trans (Ext.trans hX h3) (ext1 w3 (.cells (mkC m) 23)); obtain ⟨p0, p1, p2, p3⟩ := cells_mk (HE.out.2.ext hX); clear D1 h3)
    | (go_at_call 19; refine (N.out _ (Ext.trans HE.out.1 hX)).mono ?_; rintro e w4 ⟨p, g, rfl, hp, hg, h4, hA⟩; have HP := Lib.hid (And.intro (Nat.le_trans hX.size hp) (Nat.le_trans hX.size hg)); replace hX := Ext.trans hX h4; have AR := Lib.hid hA; clear p0 p1 p2 p3 q0 q1 q2 q3; obtain ⟨p0, p1, p2, p3⟩ := cells_mk (HE.out.2.ext hX); clear h4 hp hg hA)
    | (go_at_call 22; refine (PU.out p g _ (Ext.trans HE.out.1 hX) AR.out).mono ?_; rintro e w5 ⟨rfl, hc, hA⟩; replace hX := Chg.below hX hc hX.size HP.out.2; replace AR := Lib.hid hA; clear p0 p1 p2 p3 hc hA)
    | (go_at_call 21; refine (GE.out p g _ (Ext.trans HE.out.1 hX) AR.out).mono ?_; rintro e w6 ⟨rfl, h6⟩; have B6 := Lib.hid (Blk.new w6 (mkC GM) 23); replace AR := Lib.hid ((AR.out.ext h6).ext (ext1 w6 (.cells (mkC GM) 23))); replace hX := Ext.trans (Ext.trans hX h6) (ext1 w6 (.cells (mkC GM) 23)); obtain ⟨p0, p1, p2, p3⟩ := cells_mk (HE.out.2.ext hX); clear h6)
    | (go_at_call 15; refine (RI.out _ (Ext.trans HE.out.1 hX)).mono ?_; rintro e w7 ⟨rfl, h7⟩; replace hX := Ext.trans hX h7; replace AR := Lib.hid (AR.out.ext h7); clear p0 p1 p2 p3 h7)
    | (go_at_call 29; refine (CT.out p g _ (Ext.trans HE.out.1 hX) AR.out).mono ?_; rintro e w8 ⟨rfl, h8⟩; replace hX := Ext.trans hX h8; clear h8))
  go_ret
  first | exact ⟨rfl, Ext.trans HE.out.1 hX⟩ | exact ⟨ret_bool (by simp), Ext.trans HE.out.1 hX⟩
set_option maxHeartbeats 2000000 in
set_option maxRecDepth 100000 in
theorem back_ok (n : Nat) (n1 : 1 ≤ n) (n2 : n ≤ 32) (x : Int) (m : MkR) (hr : rightM m = true) (hx : x % 8 = 0) (hk : okA (List.replicate (4096 * n) 0) x 8) (w : World) (hG : G a b w) (hJ : JG w) :
    Calls Tryd.prog 5 #[.int .i64 (n : Nat), .int .i64 x, mkV m] w fun e w' => e = .returned (.bool true) ∧ Ext w w' := by
  have E1 := ext1 w (.cells (mkC m) 23)
  have b1 := Blk.new w (mkC m) 23
  have S := Lib.hid (shown_is _ (hG.ext E1))
  have C1 := Lib.hid (fun W (hW : Ext w W) => encode_is m W (hG.ext hW))
  have D1 := Lib.hid (fun W (hW : Ext w W) => decode_is (encV m) W (hG.ext hW))
  rw [(enc_of_ok hr).1, (dec_enc hr).1, (dec_enc hr).2] at D1
  rw [(enc_of_ok hr).1, (enc_of_ok hr).2] at C1
  have N := Lib.hid (fun W (hW : Ext w W) => new_ok (a := a) n n1 n2 W (hG.ext hW).g (jg_ext hJ hW))
  obtain ⟨L, hL⟩ : ∃ L : List UInt8, List.replicate (4096 * n) 0 = L := ⟨_, rfl⟩
  obtain ⟨u1, u2, u3, u4, u5⟩ := put_got (L := List.replicate (4096 * n) 0) (x := x) hr hx hk
  have PU := Lib.hid (fun p g W (hW : Ext w W) hA => put_is (a := a) (b := b) p g (List.replicate (4096 * n) 0) m x W (hG.ext hW) hA)
  rw [u1] at PU
  have GE := Lib.hid (fun p g W (hW : Ext w W) hA => get_is (a := a) (b := b) p g (putL (List.replicate (4096 * n) 0) x m) x W (hG.ext hW) hA)
  rw [u2, u3] at GE
  have RD := Lib.hid (fun p g W (hW : Ext w W) hA => read_ok (a := a) p g (putL (List.replicate (4096 * n) 0) x m) x 8 u4 W (hG.ext hW).g hA)
  rw [show (8 : Int).toNat = 8 from rfl, u5] at RD
  generalize putL (List.replicate (4096 * n) 0) x m = L2 at *
  have hx8 := Int.tmod_eq_zero_of_dvd (Int.dvd_of_emod_eq_zero hx)
  unfold NewR at N
  rw [hL] at N PU
  obtain ⟨X, hX⟩ : ∃ X : ByteArray, ⟨(encS m).toArray⟩ = X := ⟨_, rfl⟩
  have sx := size_enc hX
  have nq := fun W => neq_self m W
  have eq := fun W => eql_self m W
  rw [hX] at C1 D1 RD
  clear hX
  have HE := Lib.hid (And.intro E1 b1)
  clear E1 b1 hG hJ hr hL n1 n2 hk hx u1 u2 u3 u4 u5
  go_enter Tryd.func5, Tryd.ntmps5
  go_wp2_with (first
    | (go_at_call 9; refine S.out.mono ?_; rintro e w1 ⟨rfl, hX⟩; obtain ⟨p0, p1, p2, p3⟩ := cells_mk (HE.out.2.ext hX); clear S)
    | (go_at_call 10; refine (C1.out _ (Ext.trans HE.out.1 hX)).mono ?_; rintro e w2 ⟨rfl, h2⟩; replace hX := Ext.trans hX h2; clear p0 p1 p2 p3 C1 h2)
    | (go_at_call 12; refine (D1.out _ (Ext.trans HE.out.1 hX)).mono ?_; rintro e w3 ⟨rfl, h3⟩; have B3 := Lib.hid (Blk.new w3 (mkC m) 23); obtain ⟨q0, q1, q2, q3⟩ := cells_mk B3.out; replace hX := Ext.trans (Ext.trans hX h3) (ext1 w3 (.cells (mkC m) 23)); obtain ⟨p0, p1, p2, p3⟩ := cells_mk (HE.out.2.ext hX); clear D1 h3)
    | (go_at_call 19; refine (N.out _ (Ext.trans HE.out.1 hX)).mono ?_; rintro e w4 ⟨p, g, rfl, hp, hg, h4, hA⟩; have HP := Lib.hid (And.intro (Nat.le_trans hX.size hp) (Nat.le_trans hX.size hg)); replace hX := Ext.trans hX h4; have AR := Lib.hid hA; clear p0 p1 p2 p3 q0 q1 q2 q3; obtain ⟨p0, p1, p2, p3⟩ := cells_mk (HE.out.2.ext hX); clear h4 hp hg hA)
    | (go_at_call 22; refine (PU.out p g _ (Ext.trans HE.out.1 hX) AR.out).mono ?_; rintro e w5 ⟨rfl, hc, hA⟩; replace hX := Chg.below hX hc hX.size HP.out.2; replace AR := Lib.hid hA; clear p0 p1 p2 p3 hc hA)
    | (go_at_call 21; refine (GE.out p g _ (Ext.trans HE.out.1 hX) AR.out).mono ?_; rintro e w6 ⟨rfl, h6⟩; have B6 := Lib.hid (Blk.new w6 (mkC m) 23); replace AR := Lib.hid ((AR.out.ext h6).ext (ext1 w6 (.cells (mkC m) 23))); replace hX := Ext.trans (Ext.trans hX h6) (ext1 w6 (.cells (mkC m) 23)); clear h6)
    | (go_at_call 27; refine (RD.out p g _ (Ext.trans HE.out.1 hX) AR.out).mono ?_; rintro e w7 ⟨rfl, h7⟩; replace hX := Ext.trans hX h7; obtain ⟨q0, q1, q2, q3⟩ := cells_mk (B6.out.ext h7); obtain ⟨p0, p1, p2, p3⟩ := cells_mk (HE.out.2.ext hX); clear h7))
  go_ret
  first | exact ⟨rfl, Ext.trans HE.out.1 hX⟩ | exact ⟨ret_bool (by simp), Ext.trans HE.out.1 hX⟩
theorem back_walk (y x : Int) (m : MkR) (hy : -9223372036854775808 ≤ y ∧ y ≤ 9223372036854775807) (w : World) (hG : G a b w) (hJ : JG w) :
    Calls Tryd.prog 5 #[.int .i64 y, .int .i64 x, mkV m] w fun e w' => e = .returned (.bool true) ∧ Ext w w' := by
  by_cases h : 1 ≤ y ∧ y ≤ 32
  · obtain ⟨n, rfl⟩ : ∃ n : Nat, y = n := ⟨y.toNat, by omega⟩
    rcases hr : rightM m with _ | _
    · exact back_wrong n (by omega) (by omega) x m hr w hG hJ
    · by_cases hk : x % 8 = 0 ∧ okA (List.replicate (4096 * n) 0) x 8
      · exact back_ok n (by omega) (by omega) x m hr hk.1 hk.2 w hG hJ
      · exact back_bad n (by omega) (by omega) x m hr hk w hG hJ
  · rcases hr : rightM m with _ | _
    · exact back_none0 y h hy x m hr w hG hJ
    · exact back_none1 y h hy x m hr w hG hJ
end
end H
end Go.Proofs.YtfpefffgegphnaaDoor
