/- selionlaw03.ArenaNew: the walk (made by gen_laws.py). -/
import Derived.Test.YtmehoieijelncaaDoorMadeA
namespace Go.Proofs.YtmehoieijelncaaDoor
open Go.RowKit Go
section
variable {a : Nat → Addr}
theorem wv_rep (N x : Nat) : ∀ k, wv (List.replicate N 0) x k = 0
  | 0 => rfl
  | k + 1 => by
    have h : (List.replicate N (0 : UInt8)).getD (x + k) 0 = 0 := by
      rw [List.getD, List.getElem?_replicate]; split <;> rfl
    rw [wv, wv_rep N x k, h]; rfl
theorem new_byte_in (p g n : Nat) (y : Int) (h : 0 ≤ y ∧ y < 4096 * n) (w : World) (hG : G a w) (hA : Ar w p g (List.replicate (4096 * n) 0)) : Calls Tryd.prog 25 #[ptr p, .int .i64 y] w fun e w' => e = .returned (.tuple #[.int .i64 0, .int .i64 0]) ∧ Ext w w' := by
  have := byte_ok (a := a) p g _ y (by rw [List.length_replicate]; omega) w hG hA
  rw [show ((List.replicate (4096 * n) (0 : UInt8)).getD y.toNat 0) = 0 by rw [List.getD, List.getElem?_replicate]; split <;> rfl] at this
  exact this
theorem new_byte_out (p g n : Nat) (y : Int) (h : ¬ (0 ≤ y ∧ y < 4096 * n)) (w : World) (hG : G a w) (hA : Ar w p g (List.replicate (4096 * n) 0)) : Calls Tryd.prog 25 #[ptr p, .int .i64 y] w fun e w' => e = .returned (.tuple #[.int .i64 0, .int .i64 10]) ∧ Ext w w' :=
  byte_no (a := a) p g _ y (by rw [List.length_replicate]; omega) w hG hA
theorem new_load_in (p g n : Nat) (y : Int) (h : 0 ≤ y ∧ y < 4096 * n) (hm : y % 4 = 0) (w : World) (hG : G a w) (hA : Ar w p g (List.replicate (4096 * n) 0)) : Calls Tryd.prog 24 #[ptr p, .int .i64 y] w fun e w' => e = .returned (.tuple #[.int .u32 0, .int .i64 0]) ∧ Ext w w' := by
  have := load_ok (a := a) p g _ y (by rw [List.length_replicate]; omega) hm w hG hA
  rw [wv_rep] at this
  exact this
theorem load_bad (p g : Nat) (L : List UInt8) (y : Int) (h : ¬ (0 ≤ y ∧ y + 4 ≤ L.length ∧ y % 4 = 0)) (w : World) (hG : G a w) (hA : Ar w p g L) : Calls Tryd.prog 24 #[ptr p, .int .i64 y] w fun e w' => e = .returned (.tuple #[.int .u32 0, .int .i64 10]) ∧ Ext w w' := by
  by_cases h1 : 0 ≤ y ∧ y + 4 ≤ L.length
  · exact load_no3 (a := a) p g L y h1 (by omega) w hG hA
  · by_cases hm : y % 4 = 0
    · exact load_no (a := a) p g L y h1 hm w hG hA
    · exact load_no2 (a := a) p g L y h1 hm w hG hA
theorem new_size (p g n : Nat) (w : World) (hG : G a w) (hA : Ar w p g (List.replicate (4096 * n) 0)) : Calls Tryd.prog 14 #[ptr p] w fun e w' => e = .returned (.int .i64 (4096 * (n : Int))) ∧ Ext w w' := by
  have := size_any (a := a) p g _ w hG hA
  rw [List.length_replicate] at this
  exact this
theorem new_count (p g n : Nat) (w : World) (hG : G a w) (hA : Ar w p g (List.replicate (4096 * n) 0)) : Calls Tryd.prog 19 #[ptr p] w fun e w' => e = .returned (.int .i64 0) ∧ Ext w w' := by
  have := count_any (a := a) p g _ w hG hA
  rw [nz_zero] at this
  exact this
set_option maxHeartbeats 4000000 in
set_option maxRecDepth 100000 in
theorem new_walk_low (x y : Int) (hx : -9223372036854775808 ≤ x ∧ x ≤ 9223372036854775807) (hlt : x < 1) (w : World) (hG : G a w) :
    Calls Tryd.prog 9 #[.int .i64 x, .int .i64 y] w fun e w' => e = .returned (.bool true) ∧ Ext w w' := by
  have SH := Lib.hid (shown_any (a := a) w hG)
  have H := Lib.hid (fun W (hW : Ext w W) => hG.ext hW)
  have N := Lib.hid (fun W (hW : Ext w W) => new_no (a := a) x (by omega) hx W (hG.ext hW))
  clear hG
  go_enter Tryd.func9, Tryd.ntmps9
  go_wp2_with (first
    | (go_at_call 10; refine (SH.out).mono ?_; rintro e w1 ⟨rfl, hX⟩)
    | (go_at_call 12; refine (N.out _ hX).mono ?_; rintro e w2 ⟨rfl, h2⟩; replace hX := Ext.trans hX h2; clear h2)
)
  go_ret
  exact ⟨rfl, hX⟩
set_option maxHeartbeats 4000000 in
set_option maxRecDepth 100000 in
theorem new_walk_high (x y : Int) (hx : -9223372036854775808 ≤ x ∧ x ≤ 9223372036854775807) (hgt : 32 < x) (w : World) (hG : G a w) :
    Calls Tryd.prog 9 #[.int .i64 x, .int .i64 y] w fun e w' => e = .returned (.bool true) ∧ Ext w w' := by
  have SH := Lib.hid (shown_any (a := a) w hG)
  have H := Lib.hid (fun W (hW : Ext w W) => hG.ext hW)
  have N := Lib.hid (fun W (hW : Ext w W) => new_no (a := a) x (by omega) hx W (hG.ext hW))
  clear hG
  go_enter Tryd.func9, Tryd.ntmps9
  go_wp2_with (first
    | (go_at_call 10; refine (SH.out).mono ?_; rintro e w1 ⟨rfl, hX⟩)
    | (go_at_call 12; refine (N.out _ hX).mono ?_; rintro e w2 ⟨rfl, h2⟩; replace hX := Ext.trans hX h2; clear h2)
)
  go_ret
  exact ⟨rfl, hX⟩
set_option maxHeartbeats 4000000 in
set_option maxRecDepth 100000 in
theorem new_walk_in (n : Nat) (h1 : 1 ≤ n) (h2 : n ≤ 32) (y : Int) (y0 : 0 ≤ y) (y1 : y < 4096 * n) (ym : y % 4 = 0) (w : World) (hG : G a w) :
    Calls Tryd.prog 9 #[.int .i64 (n : Nat), .int .i64 y] w fun e w' => e = .returned (.bool true) ∧ Ext w w' := by
  have SH := Lib.hid (shown_any (a := a) w hG)
  have H := Lib.hid (fun W (hW : Ext w W) => hG.ext hW)
  have N := Lib.hid (fun W (hW : Ext w W) => new_ok (a := a) n h1 h2 W (hG.ext hW))
  have i1 : (1 : Int) ≤ n := by omega
  have i2 : (n : Int) ≤ 32 := by omega
  have hy := Lib.hid (And.intro y0 y1)
  have hm := Lib.hid ym
  have yt : (y.tmod 4 == 0) = true := by rw [beq_iff_eq]; exact (tmod4 y).2 ym
  have yt' : y.tmod 4 = 0 := (tmod4 y).2 ym
  clear hG
  go_enter Tryd.func9, Tryd.ntmps9
  go_wp2_with (first
    | (go_at_call 10; refine (SH.out).mono ?_; rintro e w1 ⟨rfl, hX⟩)
    | (go_at_call 12; refine (N.out _ hX).mono ?_; rintro e w2 ⟨p, g, rfl, hp, hg, h2, hA⟩; replace hX := Ext.trans hX h2; have AR := Lib.hid hA; clear h2 hp hg hA)
    | (go_at_call 24; (with_reducible refine (new_load_in (a := a) p g n y hy.out hm.out _ (H.out _ hX) AR.out).mono ?_); rintro e w3 ⟨rfl, h3⟩; replace hX := Ext.trans hX h3; replace AR := Lib.hid (AR.out.ext h3); clear h3)
    | (go_at_call 25; (with_reducible refine (new_byte_in (a := a) p g n y hy.out _ (H.out _ hX) AR.out).mono ?_); rintro e w3 ⟨rfl, h3⟩; replace hX := Ext.trans hX h3; replace AR := Lib.hid (AR.out.ext h3); clear h3)
    | (go_at_call 14; (with_reducible refine (new_size (a := a) p g n _ (H.out _ hX) AR.out).mono ?_); rintro e w3 ⟨rfl, h3⟩; replace hX := Ext.trans hX h3; replace AR := Lib.hid (AR.out.ext h3); clear h3)
    | (go_at_call 19; (with_reducible refine (new_count (a := a) p g n _ (H.out _ hX) AR.out).mono ?_); rintro e w3 ⟨rfl, h3⟩; replace hX := Ext.trans hX h3; replace AR := Lib.hid (AR.out.ext h3); clear h3)
)
  go_ret
  exact ⟨rfl, hX⟩
set_option maxHeartbeats 4000000 in
set_option maxRecDepth 100000 in
theorem new_walk_odd (n : Nat) (h1 : 1 ≤ n) (h2 : n ≤ 32) (y : Int) (y0 : 0 ≤ y) (y1 : y < 4096 * n) (ym : ¬ y % 4 = 0) (w : World) (hG : G a w) :
    Calls Tryd.prog 9 #[.int .i64 (n : Nat), .int .i64 y] w fun e w' => e = .returned (.bool true) ∧ Ext w w' := by
  have SH := Lib.hid (shown_any (a := a) w hG)
  have H := Lib.hid (fun W (hW : Ext w W) => hG.ext hW)
  have N := Lib.hid (fun W (hW : Ext w W) => new_ok (a := a) n h1 h2 W (hG.ext hW))
  have i1 : (1 : Int) ≤ n := by omega
  have i2 : (n : Int) ≤ 32 := by omega
  have hy := Lib.hid (And.intro y0 y1)
  have hb := Lib.hid (show ¬ (0 ≤ y ∧ y + 4 ≤ ((List.replicate (4096 * n) (0 : UInt8)).length : Nat) ∧ y % 4 = 0) from fun h => ym h.2.2)
  have yt : (y.tmod 4 == 0) = false := by rw [beq_eq_false_iff_ne]; exact fun h => ym ((tmod4 y).1 h)
  have yt' : ¬ y.tmod 4 = 0 := fun h => ym ((tmod4 y).1 h)
  have yt2 : (y % 4 == 0) = false := by rw [beq_eq_false_iff_ne]; exact ym
  clear hG
  go_enter Tryd.func9, Tryd.ntmps9
  go_wp2_with (first
    | (go_at_call 10; refine (SH.out).mono ?_; rintro e w1 ⟨rfl, hX⟩)
    | (go_at_call 12; refine (N.out _ hX).mono ?_; rintro e w2 ⟨p, g, rfl, hp, hg, h2, hA⟩; replace hX := Ext.trans hX h2; have AR := Lib.hid hA; clear h2 hp hg hA)
    | (go_at_call 24; (with_reducible refine (load_bad (a := a) p g _ y hb.out _ (H.out _ hX) AR.out).mono ?_); rintro e w3 ⟨rfl, h3⟩; replace hX := Ext.trans hX h3; replace AR := Lib.hid (AR.out.ext h3); clear h3)
    | (go_at_call 25; (with_reducible refine (new_byte_in (a := a) p g n y hy.out _ (H.out _ hX) AR.out).mono ?_); rintro e w3 ⟨rfl, h3⟩; replace hX := Ext.trans hX h3; replace AR := Lib.hid (AR.out.ext h3); clear h3)
    | (go_at_call 14; (with_reducible refine (new_size (a := a) p g n _ (H.out _ hX) AR.out).mono ?_); rintro e w3 ⟨rfl, h3⟩; replace hX := Ext.trans hX h3; replace AR := Lib.hid (AR.out.ext h3); clear h3)
    | (go_at_call 19; (with_reducible refine (new_count (a := a) p g n _ (H.out _ hX) AR.out).mono ?_); rintro e w3 ⟨rfl, h3⟩; replace hX := Ext.trans hX h3; replace AR := Lib.hid (AR.out.ext h3); clear h3)
)
  go_ret
  exact ⟨rfl, hX⟩
set_option maxHeartbeats 4000000 in
set_option maxRecDepth 100000 in
theorem new_walk_neg (n : Nat) (h1 : 1 ≤ n) (h2 : n ≤ 32) (y : Int) (y0 : y < 0) (w : World) (hG : G a w) :
    Calls Tryd.prog 9 #[.int .i64 (n : Nat), .int .i64 y] w fun e w' => e = .returned (.bool true) ∧ Ext w w' := by
  have SH := Lib.hid (shown_any (a := a) w hG)
  have H := Lib.hid (fun W (hW : Ext w W) => hG.ext hW)
  have N := Lib.hid (fun W (hW : Ext w W) => new_ok (a := a) n h1 h2 W (hG.ext hW))
  have i1 : (1 : Int) ≤ n := by omega
  have i2 : (n : Int) ≤ 32 := by omega
  have hy := Lib.hid (show ¬ (0 ≤ y ∧ y < 4096 * n) by omega)
  have hb := Lib.hid (show ¬ (0 ≤ y ∧ y + 4 ≤ ((List.replicate (4096 * n) (0 : UInt8)).length : Nat) ∧ y % 4 = 0) by rw [List.length_replicate]; omega)
  clear hG
  go_enter Tryd.func9, Tryd.ntmps9
  go_wp2_with (first
    | (go_at_call 10; refine (SH.out).mono ?_; rintro e w1 ⟨rfl, hX⟩)
    | (go_at_call 12; refine (N.out _ hX).mono ?_; rintro e w2 ⟨p, g, rfl, hp, hg, h2, hA⟩; replace hX := Ext.trans hX h2; have AR := Lib.hid hA; clear h2 hp hg hA)
    | (go_at_call 24; (with_reducible refine (load_bad (a := a) p g _ y hb.out _ (H.out _ hX) AR.out).mono ?_); rintro e w3 ⟨rfl, h3⟩; replace hX := Ext.trans hX h3; replace AR := Lib.hid (AR.out.ext h3); clear h3)
    | (go_at_call 25; (with_reducible refine (new_byte_out (a := a) p g n y hy.out _ (H.out _ hX) AR.out).mono ?_); rintro e w3 ⟨rfl, h3⟩; replace hX := Ext.trans hX h3; replace AR := Lib.hid (AR.out.ext h3); clear h3)
    | (go_at_call 14; (with_reducible refine (new_size (a := a) p g n _ (H.out _ hX) AR.out).mono ?_); rintro e w3 ⟨rfl, h3⟩; replace hX := Ext.trans hX h3; replace AR := Lib.hid (AR.out.ext h3); clear h3)
    | (go_at_call 19; (with_reducible refine (new_count (a := a) p g n _ (H.out _ hX) AR.out).mono ?_); rintro e w3 ⟨rfl, h3⟩; replace hX := Ext.trans hX h3; replace AR := Lib.hid (AR.out.ext h3); clear h3)
)
  go_ret
  exact ⟨rfl, hX⟩
set_option maxHeartbeats 4000000 in
set_option maxRecDepth 100000 in
theorem new_walk_big (n : Nat) (h1 : 1 ≤ n) (h2 : n ≤ 32) (y : Int) (y1 : 4096 * n ≤ y) (w : World) (hG : G a w) :
    Calls Tryd.prog 9 #[.int .i64 (n : Nat), .int .i64 y] w fun e w' => e = .returned (.bool true) ∧ Ext w w' := by
  have SH := Lib.hid (shown_any (a := a) w hG)
  have H := Lib.hid (fun W (hW : Ext w W) => hG.ext hW)
  have N := Lib.hid (fun W (hW : Ext w W) => new_ok (a := a) n h1 h2 W (hG.ext hW))
  have i1 : (1 : Int) ≤ n := by omega
  have i2 : (n : Int) ≤ 32 := by omega
  have y0 : 0 ≤ y := by omega
  have y2 : ¬ (y < 4096 * n) := by omega
  have hy := Lib.hid (show ¬ (0 ≤ y ∧ y < 4096 * n) by omega)
  have hb := Lib.hid (show ¬ (0 ≤ y ∧ y + 4 ≤ ((List.replicate (4096 * n) (0 : UInt8)).length : Nat) ∧ y % 4 = 0) by rw [List.length_replicate]; omega)
  clear hG
  go_enter Tryd.func9, Tryd.ntmps9
  go_wp2_with (first
    | (go_at_call 10; refine (SH.out).mono ?_; rintro e w1 ⟨rfl, hX⟩)
    | (go_at_call 12; refine (N.out _ hX).mono ?_; rintro e w2 ⟨p, g, rfl, hp, hg, h2, hA⟩; replace hX := Ext.trans hX h2; have AR := Lib.hid hA; clear h2 hp hg hA)
    | (go_at_call 24; (with_reducible refine (load_bad (a := a) p g _ y hb.out _ (H.out _ hX) AR.out).mono ?_); rintro e w3 ⟨rfl, h3⟩; replace hX := Ext.trans hX h3; replace AR := Lib.hid (AR.out.ext h3); clear h3)
    | (go_at_call 25; (with_reducible refine (new_byte_out (a := a) p g n y hy.out _ (H.out _ hX) AR.out).mono ?_); rintro e w3 ⟨rfl, h3⟩; replace hX := Ext.trans hX h3; replace AR := Lib.hid (AR.out.ext h3); clear h3)
    | (go_at_call 14; (with_reducible refine (new_size (a := a) p g n _ (H.out _ hX) AR.out).mono ?_); rintro e w3 ⟨rfl, h3⟩; replace hX := Ext.trans hX h3; replace AR := Lib.hid (AR.out.ext h3); clear h3)
    | (go_at_call 19; (with_reducible refine (new_count (a := a) p g n _ (H.out _ hX) AR.out).mono ?_); rintro e w3 ⟨rfl, h3⟩; replace hX := Ext.trans hX h3; replace AR := Lib.hid (AR.out.ext h3); clear h3)
)
  go_ret
  exact ⟨rfl, hX⟩
theorem new_walk (x y : Int) (hx : -9223372036854775808 ≤ x ∧ x ≤ 9223372036854775807) (_hy : -9223372036854775808 ≤ y ∧ y ≤ 9223372036854775807) (w : World) (hG : G a w) :
    Calls Tryd.prog 9 #[.int .i64 x, .int .i64 y] w fun e w' => e = .returned (.bool true) ∧ Ext w w' := by
  by_cases h1 : x < 1
  · exact new_walk_low x y hx h1 w hG
  · by_cases h2 : 32 < x
    · exact new_walk_high x y hx h2 w hG
    · obtain ⟨n, rfl⟩ : ∃ n : Nat, x = n := ⟨x.toNat, by omega⟩
      by_cases y0 : y < 0
      · exact new_walk_neg n (by omega) (by omega) y y0 w hG
      · by_cases y1 : 4096 * n ≤ y
        · exact new_walk_big n (by omega) (by omega) y y1 w hG
        · by_cases ym : y % 4 = 0
          · exact new_walk_in n (by omega) (by omega) y (by omega) (by omega) ym w hG
          · exact new_walk_odd n (by omega) (by omega) y (by omega) (by omega) ym w hG
end
end Go.Proofs.YtmehoieijelncaaDoor
