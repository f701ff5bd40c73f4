/- selionlaw03.ArenaWords: the walk (made by gen_laws.py). -/
import Derived.Test.YtmehoieijelncaaDoorLaw
namespace Go.Proofs.YtmehoieijelncaaDoor
open Go.RowKit Go
section
variable {a : Nat → Addr}
theorem load_bad (p g : Nat) (L : List UInt8) (y : Int) (h : ¬ (0 ≤ y ∧ y + 4 ≤ L.length ∧ y % 4 = 0)) (w : World) (hG : G a w) (hA : Ar w p g L) : Calls Tryd.prog 24 #[ptr p, .int .i64 y] w fun e w' => e = .returned (.tuple #[.int .u32 0, .int .i64 10]) ∧ Ext w w' := by
  by_cases h1 : 0 ≤ y ∧ y + 4 ≤ L.length
  · exact load_no3 (a := a) p g L y h1 (by omega) w hG hA
  · by_cases hm : y % 4 = 0
    · exact load_no (a := a) p g L y h1 hm w hG hA
    · exact load_no2 (a := a) p g L y h1 hm w hG hA
theorem store_bad (p g : Nat) (L : List UInt8) (y : Int) (v : Nat) (h : ¬ (0 ≤ y ∧ y + 4 ≤ L.length ∧ y % 4 = 0)) (w : World) (hG : G a w) (hA : Ar w p g L) : Calls Tryd.prog 23 #[ptr p, .int .i64 y, .int .u32 (v : Nat)] w fun e w' => e = .returned (.int .i64 10) ∧ Ext w w' := by
  by_cases h1 : 0 ≤ y ∧ y + 4 ≤ L.length
  · exact store_no3 (a := a) p g L y v h1 (by omega) w hG hA
  · by_cases hm : y % 4 = 0
    · exact store_no (a := a) p g L y v h1 hm w hG hA
    · exact store_no2 (a := a) p g L y v h1 hm w hG hA
theorem wb_get (v : Nat) (_hv : v < 4294967296) : ((wb v).getD 0 0).toNat = v % 256 ∧ ((wb v).getD 1 0).toNat = v / 256 % 256 ∧ ((wb v).getD 2 0).toNat = v / 65536 % 256 ∧ ((wb v).getD 3 0).toNat = v / 16777216 % 256 := by
  simp [wb, UInt8.toNat_ofNat']
theorem wv_wb (L : List UInt8) (x v : Nat) (hv : v < 4294967296) (h : x + 4 ≤ L.length) : wv (lay L x (wb v)) x 4 = v := by
  have hl : (wb v).length = 4 := rfl
  have g : ∀ j, j < 4 → ((lay L x (wb v)).getD (x + j) 0) = (wb v).getD j 0 := fun j hj => by
    rw [lay_get _ _ _ (by rw [hl]; exact h), if_pos (by rw [hl]; omega), show x + j - x = j by omega]
  obtain ⟨b0, b1, b2, b3⟩ := wb_get v hv
  simp only [wv]
  rw [g 0 (by decide), g 1 (by decide), g 2 (by decide), g 3 (by decide), b0, b1, b2, b3]
  simp only [Nat.reducePow]
  omega
theorem cut_lay (L : List UInt8) (x : Nat) (S : List UInt8) (h : x + S.length ≤ L.length) : cut (lay L x S) x S.length = S := by
  have hl : (L.take x).length = x := by simp; omega
  unfold cut lay splice
  rw [List.drop_append_of_le_length (by omega), List.drop_of_length_le (by omega), List.nil_append, List.take_append_of_le_length (by omega), List.take_length]
theorem load_back (p g : Nat) (L : List UInt8) (x : Int) (v : Nat) (hv : v < 4294967296) (h : 0 ≤ x ∧ x + 4 ≤ L.length) (hm : x % 4 = 0) (w : World) (hG : G a w) (hA : Ar w p g (lay L x.toNat (wb v))) :
    Calls Tryd.prog 24 #[ptr p, .int .i64 x] w fun e w' => e = .returned (.tuple #[.int .u32 (v : Nat), .int .i64 0]) ∧ Ext w w' := by
  have := load_ok (a := a) p g _ x (by rw [lay_len _ _ _ (by show _ + 4 ≤ _; omega)]; exact h) hm w hG hA
  rw [wv_wb _ _ _ hv (by omega)] at this
  exact this
theorem read_back4 (p g : Nat) (L : List UInt8) (x : Int) (v : Nat) (_hv : v < 4294967296) (h : 0 ≤ x ∧ x + 4 ≤ L.length) (c0 c1 c2 c3 : UInt8) (hw : wb v = [c0, c1, c2, c3]) (w : World) (hG : G a w) (hA : Ar w p g (lay L x.toNat (wb v))) :
    Calls Tryd.prog 18 #[ptr p, .int .i64 x, .int .i64 4] w fun e w' => e = .returned (.tuple #[.string ⟨#[c0, c1, c2, c3]⟩, .int .i64 0]) ∧ Ext w w' := by
  have hl := lay_len L x.toNat (wb v) (by show _ + 4 ≤ _; omega)
  have := read_ok (a := a) p g _ x 4 (by rw [hl]; omega) w hG hA
  rw [show (4 : Int).toNat = (wb v).length from rfl, cut_lay _ _ _ (by show _ + 4 ≤ _; omega), hw] at this
  exact this
set_option maxHeartbeats 4000000 in
set_option maxRecDepth 100000 in
theorem words_none (b : Int) (A : Option Addr) (n c : Nat) (x : Int) (v : Nat) (w : World) (hG : G a w) (hM : ∀ W, Ext w W → Calls Tryd.prog 21 #[.int .i64 b, .slice A n c] W (fun e w' => e = .returned (.tuple #[.pointer none, .bool false]) ∧ Ext W w')) :
    Calls Tryd.prog 5 #[.int .i64 b, .slice A n c, .int .i64 x, .int .u32 (v : Nat)] w fun e w' => e = .returned (.bool true) ∧ Ext w w' := by
  have SH := Lib.hid (shown_any (a := a) w hG)
  have H := Lib.hid (fun W (hW : Ext w W) => hG.ext hW)
  have M := Lib.hid hM
  clear hG hM
  go_enter Tryd.func5, Tryd.ntmps5
  go_wp2_with (first
    | (go_at_call 10; refine (SH.out).mono ?_; rintro e w1 ⟨rfl, hX⟩)
    | (go_at_call 21; refine (M.out _ hX).mono ?_; rintro e w2 ⟨rfl, h2⟩; replace hX := Ext.trans hX h2; clear h2))
  go_ret
  exact ⟨rfl, hX⟩
set_option maxHeartbeats 4000000 in
set_option maxRecDepth 100000 in
theorem words_no (L : List UInt8) (b : Int) (A : Option Addr) (n c : Nat) (x : Int) (v : Nat) (h : ¬ (0 ≤ x ∧ x + 4 ≤ L.length ∧ x % 4 = 0)) (w : World) (hG : G a w) (hM : ∀ W, Ext w W → Calls Tryd.prog 21 #[.int .i64 b, .slice A n c] W (MadeP W L)) :
    Calls Tryd.prog 5 #[.int .i64 b, .slice A n c, .int .i64 x, .int .u32 (v : Nat)] w fun e w' => e = .returned (.bool true) ∧ Ext w w' := by
  have SH := Lib.hid (shown_any (a := a) w hG)
  have H := Lib.hid (fun W (hW : Ext w W) => hG.ext hW)
  have M := Lib.hid hM
  have hb := Lib.hid h
  clear h
  clear hG hM
  go_enter Tryd.func5, Tryd.ntmps5
  go_wp2_with (first
    | (go_at_call 10; refine (SH.out).mono ?_; rintro e w1 ⟨rfl, hX⟩)
    | (go_at_call 21; refine (M.out _ hX).mono ?_; rintro e w2 ⟨p, g, rfl, hp, hg, h2, hA⟩; have HP := Lib.hid (And.intro (Nat.le_trans hX.size hp) (Nat.le_trans hX.size hg)); replace hX := Ext.trans hX h2; have AR := Lib.hid hA; clear h2 hp hg hA)
    | (go_at_call 23; refine (store_bad (a := a) p g _ x v hb.out _ (H.out _ hX) AR.out).mono ?_; rintro e w3 ⟨rfl, h3⟩; replace hX := Ext.trans hX h3; replace AR := Lib.hid (AR.out.ext h3); clear h3)
    | (go_at_call 24; (with_reducible refine (load_bad (a := a) p g _ x hb.out _ (H.out _ hX) AR.out).mono ?_); rintro e w4 ⟨rfl, h4⟩; replace hX := Ext.trans hX h4; replace AR := Lib.hid (AR.out.ext h4); clear h4))
  go_ret
  exact ⟨rfl, hX⟩
set_option maxHeartbeats 4000000 in
set_option maxRecDepth 100000 in
theorem words_ok (L : List UInt8) (b : Int) (A : Option Addr) (n c : Nat) (x : Int) (v : Nat) (v4 : v < 4294967296) (x0 : 0 ≤ x) (x1 : x + 4 ≤ L.length) (xm : x % 4 = 0) (w : World) (hG : G a w) (hM : ∀ W, Ext w W → Calls Tryd.prog 21 #[.int .i64 b, .slice A n c] W (MadeP W L)) :
    Calls Tryd.prog 5 #[.int .i64 b, .slice A n c, .int .i64 x, .int .u32 (v : Nat)] w fun e w' => e = .returned (.bool true) ∧ Ext w w' := by
  have SH := Lib.hid (shown_any (a := a) w hG)
  have H := Lib.hid (fun W (hW : Ext w W) => hG.ext hW)
  have M := Lib.hid hM
  have hv := Lib.hid v4
  have hy := Lib.hid (And.intro x0 x1)
  have hm := Lib.hid xm
  have yt : (x.tmod 4 == 0) = true := by rw [beq_iff_eq]; exact (tmod4 x).2 xm
  have yt2 : (x % 4 == 0) = true := by rw [beq_iff_eq]; exact xm
  obtain ⟨c0, c1, c2, c3, hcs⟩ : ∃ c0 c1 c2 c3 : UInt8, wb v = [c0, c1, c2, c3] := ⟨_, _, _, _, rfl⟩
  have hw := Lib.hid hcs
  have hg := wb_get v v4
  rw [hcs] at hg
  simp only [List.getD_cons_zero, List.getD_cons_succ] at hg
  clear hcs
  have gz0 : ∀ h, ((⟨#[c0, c1, c2, c3]⟩ : ByteArray)[0]'h) = c0 := fun _ => rfl
  have gz1 : ∀ h, ((⟨#[c0, c1, c2, c3]⟩ : ByteArray)[1]'h) = c1 := fun _ => rfl
  have gz2 : ∀ h, ((⟨#[c0, c1, c2, c3]⟩ : ByteArray)[2]'h) = c2 := fun _ => rfl
  have gz3 : ∀ h, ((⟨#[c0, c1, c2, c3]⟩ : ByteArray)[3]'h) = c3 := fun _ => rfl
  obtain ⟨d0, hd0⟩ : ∃ d : Nat, c0.toNat = d := ⟨_, rfl⟩
  obtain ⟨d1, hd1⟩ : ∃ d : Nat, c1.toNat = d := ⟨_, rfl⟩
  obtain ⟨d2, hd2⟩ : ∃ d : Nat, c2.toNat = d := ⟨_, rfl⟩
  obtain ⟨d3, hd3⟩ : ∃ d : Nat, c3.toNat = d := ⟨_, rfl⟩
  rw [hd0, hd1, hd2, hd3] at hg
  have m0 : (d0 : Int) % 4294967296 = d0 := by omega
  have m1 : (d1 : Int) % 4294967296 = d1 := by omega
  have m2 : (d2 : Int) % 4294967296 = d2 := by omega
  have m3 : (d3 : Int) % 4294967296 = d3 := by omega
  have n1 : 256 * (d1 : Int) % 4294967296 = 256 * d1 := by omega
  have n2 : 65536 * (d2 : Int) % 4294967296 = 65536 * d2 := by omega
  have n3 : 16777216 * (d3 : Int) % 4294967296 = 16777216 * d3 := by omega
  have s1 : ((d0 : Int) + 256 * d1) % 4294967296 = d0 + 256 * d1 := by omega
  have s2 : ((d0 : Int) + 256 * d1 + 65536 * d2) % 4294967296 = d0 + 256 * d1 + 65536 * d2 := by omega
  have s3 : ((d0 : Int) + 256 * d1 + 65536 * d2 + 16777216 * d3) % 4294967296 = v := by omega
  have s4 : (d0 : Int) + 256 * d1 + 65536 * d2 + 16777216 * d3 = v := by omega
  have e4 : (4294967296 : Int) = 4294967296 := rfl
  clear hg
  clear hG hM
  go_enter Tryd.func5, Tryd.ntmps5
  go_wp2_with (first
    | (go_at_call 10; refine (SH.out).mono ?_; rintro e w1 ⟨rfl, hX⟩)
    | (go_at_call 21; refine (M.out _ hX).mono ?_; rintro e w2 ⟨p, g, rfl, hp, hg, h2, hA⟩; have HP := Lib.hid (And.intro (Nat.le_trans hX.size hp) (Nat.le_trans hX.size hg)); replace hX := Ext.trans hX h2; have AR := Lib.hid hA; clear h2 hp hg hA)
    | (go_at_call 23; refine (store_ok (a := a) p g _ x v hv.out hy.out hm.out _ (H.out _ hX) AR.out).mono ?_; rintro e w3 ⟨rfl, hc, hA⟩; replace hX := Chg.below hX hc hX.size HP.out.2; replace AR := Lib.hid hA; clear hc hA)
    | (go_at_call 24; (with_reducible refine (load_back (a := a) p g L x v hv.out hy.out hm.out _ (H.out _ hX) AR.out).mono ?_); rintro e w4 ⟨rfl, h4⟩; replace hX := Ext.trans hX h4; replace AR := Lib.hid (AR.out.ext h4); clear h4)
    | (go_at_call 18; refine (read_back4 (a := a) p g L x v hv.out hy.out c0 c1 c2 c3 hw.out _ (H.out _ hX) AR.out).mono ?_; rintro e w5 ⟨rfl, h5⟩; replace hX := Ext.trans hX h5; replace AR := Lib.hid (AR.out.ext h5); clear h5))
  refine wp_region_on (by kernel_rfl) (by kernel_rfl) ?_
  repeat (go_big_quiet_step (fail))

  refine wpQuiet_nil ?_
  intro W hW
  go_wp2
  go_ret
  exact ⟨rfl, Ext.trans hX hW⟩
theorem words_walk (b : Int) (A : Option Addr) (n c : Nat) (xs : List OpR) (x : Int) (v : Nat) (hb : -9223372036854775808 ≤ b ∧ b ≤ 9223372036854775807) (_hx : -9223372036854775808 ≤ x ∧ x ≤ 9223372036854775807) (hv : v < 4294967296) (w : World) (hO : OpsAt w A n xs) (hG : G a w) :
    Calls Tryd.prog 5 #[.int .i64 b, .slice A n c, .int .i64 x, .int .u32 (v : Nat)] w fun e w' => e = .returned (.bool true) ∧ Ext w w' := by
  by_cases hb1 : 1 ≤ b ∧ b ≤ 32
  · obtain ⟨b, rfl⟩ : ∃ k : Nat, b = k := ⟨b.toNat, by omega⟩
    obtain ⟨L, hL, hM⟩ := made_L (a := a) b (by omega) (by omega) A n c xs w hO hG
    by_cases h : 0 ≤ x ∧ x + 4 ≤ L.length ∧ x % 4 = 0
    · exact words_ok L b A n c x v hv h.1 h.2.1 h.2.2 w hG hM
    · exact words_no L b A n c x v h w hG hM
  · exact words_none b A n c x v w hG (fun W hW => made_no (a := a) b hb1 hb _ W (hG.ext hW))
end
end Go.Proofs.YtmehoieijelncaaDoor
