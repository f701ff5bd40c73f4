/- selionlaw03.ArenaZeroes: the walk (made by gen_laws.py). -/
import Derived.Test.YtmehoieijelncaaDoorLawWords
import Derived.Test.YtmehoieijelncaaDoorLaw
import Derived.Deep.LoopGhost
namespace Go.Proofs.YtmehoieijelncaaDoor
open Go.RowKit Go
section
variable {a : Nat → Addr}
theorem nz_app (s t : List UInt8) : nz (s ++ t) = nz s + nz t := by simp [nz]
theorem nz_lay (L : List UInt8) (x : Nat) (S : List UInt8) : nz (lay L x S) + nz (cut L x S.length) = nz L + nz S := by
  have e : L = L.take x ++ (cut L x S.length ++ L.drop (x + S.length)) := by
    unfold cut
    rw [← List.drop_drop, List.take_append_drop, List.take_append_drop]
  have e2 := congrArg nz e
  rw [nz_app, nz_app] at e2
  unfold lay splice
  rw [nz_app, nz_app]
  omega
theorem zeros_text (n : Nat) (w : World) : (convert 43 9 (.slice (some ⟨w.heap.size, 0, none⟩) n n)).run Tryd.prog (w.alloc (.cells (bts (List.replicate n 0)) 5)) = .ok (.string ⟨(List.replicate n (0 : UInt8)).toArray⟩) (w.alloc (.cells (bts (List.replicate n 0)) 5)) := by
  have := run_text_of (P := Tryd.prog) (w.alloc (.cells (bts (List.replicate n 0)) 5)) 43 9 5 (some ⟨w.heap.size, 0, none⟩) n n 0 w.heap.size (List.replicate n 0) 5 Tryd.underlying43 Tryd.underlying5 Tryd.underlying9 (Blk.new _ _ _) (fun _ => rfl) (by rw [List.length_replicate]; omega)
  rw [show cut (List.replicate n (0 : UInt8)) 0 n = List.replicate n 0 by unfold cut; rw [List.drop_zero, List.take_of_length_le (by rw [List.length_replicate]; exact Nat.le_refl _)]] at this
  exact this
theorem zero_back (p g : Nat) (L : List UInt8) (x : Int) (y : Nat) (h : 0 ≤ x ∧ x + y ≤ L.length) (w : World) (hG : G a w) (hA : Ar w p g (lay L x.toNat (List.replicate y 0))) :
    Calls Tryd.prog 18 #[ptr p, .int .i64 x, .int .i64 (y : Nat)] w fun e w' => e = .returned (.tuple #[.string ⟨(List.replicate y (0 : UInt8)).toArray⟩, .int .i64 0]) ∧ Ext w w' := by
  have hl := lay_len L x.toNat (List.replicate y 0) (by rw [List.length_replicate]; omega)
  have := read_ok (a := a) p g _ x (y : Nat) (by rw [hl]; omega) w hG hA
  have hc := cut_lay L x.toNat (List.replicate y 0) (by rw [List.length_replicate]; omega)
  rw [List.length_replicate] at hc
  rw [Int.toNat_natCast, hc] at this
  exact this
set_option maxHeartbeats 4000000 in
set_option maxRecDepth 100000 in
theorem zeroes_none (b : Int) (A : Option Addr) (n c : Nat) (x y : Int) (w : World) (hG : G a w) (hM : ∀ W, Ext w W → Calls Tryd.prog 21 #[.int .i64 b, .slice A n c] W (fun e w' => e = .returned (.tuple #[.pointer none, .bool false]) ∧ Ext W w')) :
    Calls Tryd.prog 6 #[.int .i64 b, .slice A n c, .int .i64 x, .int .i64 y] w fun e w' => e = .returned (.bool true) ∧ Ext w w' := by
  have SH := Lib.hid (shown_any (a := a) w hG)
  have H := Lib.hid (fun W (hW : Ext w W) => hG.ext hW)
  have M := Lib.hid hM
  clear hG hM
  go_enter Tryd.func6, Tryd.ntmps6
  go_wp2_with (first
    | (go_at_call 10; refine (SH.out).mono ?_; rintro e w1 ⟨rfl, hX⟩)
    | (go_at_call 21; refine (M.out _ hX).mono ?_; rintro e w2 ⟨rfl, h2⟩; replace hX := Ext.trans hX h2; clear h2))
  go_ret
  exact ⟨rfl, hX⟩
set_option maxHeartbeats 4000000 in
set_option maxRecDepth 100000 in
theorem zeroes_no (L : List UInt8) (b : Int) (A : Option Addr) (n c : Nat) (x y : Int) (h : ¬ (0 ≤ x ∧ 0 ≤ y ∧ x + y ≤ L.length)) (w : World) (hG : G a w) (hM : ∀ W, Ext w W → Calls Tryd.prog 21 #[.int .i64 b, .slice A n c] W (MadeP W L)) :
    Calls Tryd.prog 6 #[.int .i64 b, .slice A n c, .int .i64 x, .int .i64 y] w fun e w' => e = .returned (.bool true) ∧ Ext w w' := by
  have SH := Lib.hid (shown_any (a := a) w hG)
  have H := Lib.hid (fun W (hW : Ext w W) => hG.ext hW)
  have M := Lib.hid hM
  have hb := Lib.hid h
  have K := Lib.hid (rd_no (L := L) (x := x) (y := y) h)
  obtain ⟨N9, hN⟩ : ∃ N : Int, ((nz L : Nat) : Int) = N := ⟨_, rfl⟩
  have hk := Lib.hid hN
  clear h hN
  clear hG hM
  go_enter Tryd.func6, Tryd.ntmps6
  go_wp2_with (first
    | (go_at_call 10; refine (SH.out).mono ?_; rintro e w1 ⟨rfl, hX⟩)
    | (go_at_call 21; refine (M.out _ hX).mono ?_; rintro e w2 ⟨p, g, rfl, hp, hg, h2, hA⟩; have HP := Lib.hid (And.intro (Nat.le_trans hX.size hp) (Nat.le_trans hX.size hg)); replace hX := Ext.trans hX h2; have AR := Lib.hid hA; clear h2 hp hg hA)
    | (go_at_call 18; (with_reducible refine (read_is (a := a) p g _ x y _ _ K.out.1 K.out.2 _ (H.out _ hX) AR.out).mono ?_); rintro e w3 ⟨rfl, h3⟩; replace hX := Ext.trans hX h3; replace AR := Lib.hid (AR.out.ext h3); clear h3)
    | (go_at_call 19; (with_reducible refine (count_is (a := a) p g _ _ hk.out _ (H.out _ hX) AR.out).mono ?_); rintro e w3 ⟨rfl, h3⟩; replace hX := Ext.trans hX h3; replace AR := Lib.hid (AR.out.ext h3); clear h3)
    | (go_at_call 15; refine (zero_no (a := a) p g _ x y hb.out _ (H.out _ hX) AR.out).mono ?_; rintro e w3 ⟨rfl, h3⟩; replace hX := Ext.trans hX h3; replace AR := Lib.hid (AR.out.ext h3); clear h3))
  go_ret
  exact ⟨rfl, hX⟩
set_option maxHeartbeats 4000000 in
set_option maxRecDepth 100000 in
theorem zeroes_ok (L : List UInt8) (b : Int) (A : Option Addr) (n c : Nat) (x : Int) (y : Nat) (x0 : 0 ≤ x) (x1 : x + y ≤ L.length) (hL : L.length ≤ 131072) (w : World) (hG : G a w) (hM : ∀ W, Ext w W → Calls Tryd.prog 21 #[.int .i64 b, .slice A n c] W (MadeP W L)) :
    Calls Tryd.prog 6 #[.int .i64 b, .slice A n c, .int .i64 x, .int .i64 (y : Nat)] w fun e w' => e = .returned (.bool true) ∧ Ext w w' := by
  have SH := Lib.hid (shown_any (a := a) w hG)
  have H := Lib.hid (fun W (hW : Ext w W) => hG.ext hW)
  have M := Lib.hid hM
  have hy := Lib.hid (show 0 ≤ x ∧ 0 ≤ (y : Int) ∧ x + (y : Nat) ≤ L.length from ⟨x0, by omega, x1⟩)
  have hy2 := Lib.hid (And.intro x0 x1)
  have K0 := rd_ok (L := L) (x := x) (y := (y : Int)) hy.out
  obtain ⟨S, hS⟩ : ∃ S, cut L x.toNat y = S := ⟨_, rfl⟩
  have hSl : S.length = y := by rw [← hS]; exact cut_len _ _ _ (by omega)
  have hn := nz_lay L x.toNat (List.replicate y 0)
  rw [List.length_replicate, hS, nz_zero] at hn
  rw [Int.toNat_natCast, hS] at K0
  have K := Lib.hid K0
  obtain ⟨N9, hN⟩ : ∃ N : Int, ((nz L : Nat) : Int) = N := ⟨_, rfl⟩
  have hk := Lib.hid hN
  have hk2 := Lib.hid (show ((nz (lay L x.toNat (List.replicate y 0)) : Nat) : Int) = N9 - (nz S : Nat) by omega)
  have hb1 := nz_le L
  have hb2 := nz_le S
  have hb3 : N9 ≤ 131072 := by omega
  have hb4 : 0 ≤ N9 := by omega
  have hb5 : ((nz S : Nat) : Int) ≤ N9 := by omega
  have hb6 : (y : Int) ≤ 131072 := by omega
  have HS := Lib.hid hSl
  have hmk := fun w => make_bytes y (by omega) w
  have htx := fun w => zeros_text y w
  have hsz2 : S.length = y := hSl
  clear hn hN hS hb1 hb2 hSl K0
  clear hG hM
  go_enter Tryd.func6, Tryd.ntmps6
  go_wp2_with (first
    | (go_at_call 10; refine (SH.out).mono ?_; rintro e w1 ⟨rfl, hX⟩)
    | (go_at_call 21; refine (M.out _ hX).mono ?_; rintro e w2 ⟨p, g, rfl, hp, hg, h2, hA⟩; have HP := Lib.hid (And.intro (Nat.le_trans hX.size hp) (Nat.le_trans hX.size hg)); replace hX := Ext.trans hX h2; have AR := Lib.hid hA; clear h2 hp hg hA)
    | (go_at_call 18; (with_reducible refine (read_is (a := a) p g _ x y _ _ K.out.1 K.out.2 _ (H.out _ hX) AR.out).mono ?_); rintro e w3 ⟨rfl, h3⟩; replace hX := Ext.trans hX h3; replace AR := Lib.hid (AR.out.ext h3); clear h3)
    | (go_at_call 19; (with_reducible refine (count_is (a := a) p g _ _ hk.out _ (H.out _ hX) AR.out).mono ?_); rintro e w3 ⟨rfl, h3⟩; replace hX := Ext.trans hX h3; replace AR := Lib.hid (AR.out.ext h3); clear h3)
    | (go_at_call 15; refine (zero_ok (a := a) p g L x (y : Nat) hy.out _ (H.out _ hX) AR.out).mono ?_; rintro e w3 ⟨rfl, hc, hA⟩; replace hX := Chg.below hX hc hX.size HP.out.2; rw [Int.toNat_natCast] at hA; replace AR := Lib.hid hA; clear hc hA))
  have HX := Lib.hid hX
  refine wp_world ?_
  intro w9 hw9
  subst hw9
  go_loopg [16, 17] y (fun m t i wr => ∃ k : Nat, k + m = y ∧ i = .int .i64 k ∧ t = .int .i64 (nz (S.take k) : Nat) ∧ w9 = wr)
  case atStart => exact ⟨0, by omega, rfl, rfl, rfl⟩
  case round =>
    obtain ⟨k, hk9, rfl, rfl, rfl⟩ := hrel
    by_cases hlt : k < y
    · have hst := nz_step S k (by omega)
      have hle := nz_le (S.take k)
      have hle2 : (S.take k).length ≤ 131072 := by simp; omega
      have hi : (k : Int) < y := by omega
      have hi2 : (k : Int) + 1 ≤ 131072 := by omega
      have hi3 : ((nz (S.take k) : Nat) : Int) + 1 ≤ 131073 := by omega
      have gz : ∀ h, ((⟨S.toArray⟩ : ByteArray)[k]'h) = S.getD k 0 := fun h => by
        show S.toArray[k] = _
        simp [List.getD, List.getElem?_eq_getElem (show k < S.length by omega)]
      have hnd : ((S.getD k 0).toNat : Int) = 0 ↔ S.getD k 0 = 0 := by
        constructor
        · intro h; exact UInt8.toNat_inj.1 (by simpa using h)
        · intro h; rw [h]; rfl
      have HH := Lib.hid (And.intro hk9 hst)
      have hd8 := getD_lt S k
      generalize hT : nz (S.take k) = T at *
      generalize hD : S.getD k 0 = D at *
      clear hst hle hle2 hk9
      by_cases hd : (D.toNat : Int) = 0
      · have hL0 := Lib.hid (hnd.1 hd)
        have hd' : ((D.toNat : Int) != 0) = false := by simp [hd]
        clear hnd
        go_wp2
        go_roundg (gk - 1)
        case measure => have := HH.out.1; omega
        case rel => exact ⟨k + 1, by have := HH.out.1; omega, by go_num, by rw [HH.out.2, if_pos hL0.out, Nat.add_zero], rfl⟩
      · have hL0 := Lib.hid (fun h => hd (hnd.2 h))
        have hd' : ((D.toNat : Int) != 0) = true := by simpa using hd
        clear hnd hd
        go_wp2
        go_roundg (gk - 1)
        case measure => have := HH.out.1; omega
        case rel => exact ⟨k + 1, by have := HH.out.1; omega, by go_num, by rw [HH.out.2, if_neg hL0.out]; go_num, rfl⟩
    · obtain rfl : k = y := by omega
      have hi : ¬ (k : Int) < k := by omega
      rw [List.take_of_length_le (by omega)] at *
      clear hlt hk9
      go_wp2_with (first
    | (go_at_call 18; (with_reducible refine (zero_back (a := a) p g L x _ hy2.out _ (H.out _ hX) AR.out).mono ?_); rintro e w5 ⟨rfl, h5⟩; replace hX := Ext.trans hX h5; replace AR := Lib.hid (AR.out.ext h5); clear h5)
    | (go_at_call 19; refine (count_is (a := a) p g _ _ hk2.out _ (H.out _ (Ext.trans hX (ext1 _ _))) (AR.out.ext (ext1 _ _))).mono ?_; rintro e w6 ⟨rfl, h6⟩; replace hX := Ext.trans (Ext.trans hX (ext1 _ _)) h6; clear h6))
      go_ret
      exact ⟨rfl, hX⟩
theorem zeroes_walk (b : Int) (A : Option Addr) (n c : Nat) (xs : List OpR) (x y : Int) (hb : -9223372036854775808 ≤ b ∧ b ≤ 9223372036854775807) (_hx : -9223372036854775808 ≤ x ∧ x ≤ 9223372036854775807) (_hy : -9223372036854775808 ≤ y ∧ y ≤ 9223372036854775807) (w : World) (hO : OpsAt w A n xs) (hG : G a w) :
    Calls Tryd.prog 6 #[.int .i64 b, .slice A n c, .int .i64 x, .int .i64 y] w fun e w' => e = .returned (.bool true) ∧ Ext w w' := by
  by_cases hb1 : 1 ≤ b ∧ b ≤ 32
  · obtain ⟨b, rfl⟩ : ∃ k : Nat, b = k := ⟨b.toNat, by omega⟩
    obtain ⟨L, hL, hM⟩ := made_L (a := a) b (by omega) (by omega) A n c xs w hO hG
    by_cases h : 0 ≤ x ∧ 0 ≤ y ∧ x + y ≤ L.length
    · obtain ⟨y, rfl⟩ : ∃ k : Nat, y = k := ⟨y.toNat, by omega⟩
      exact zeroes_ok L b A n c x y h.1 h.2.2 (by omega) w hG hM
    · exact zeroes_no L b A n c x y h w hG hM
  · exact zeroes_none b A n c x y w hG (fun W hW => made_no (a := a) b hb1 hb _ W (hG.ext hW))
end
end Go.Proofs.YtmehoieijelncaaDoor
