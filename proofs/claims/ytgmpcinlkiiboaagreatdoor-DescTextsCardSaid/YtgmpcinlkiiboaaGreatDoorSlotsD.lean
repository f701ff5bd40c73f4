/- desc: Slots. -/
import Derived.Test.YtgmpcinlkiiboaaGreatDoorCollect
namespace Go.Proofs.YtgmpcinlkiiboaaGreatDoor
open Go.RowKit Go
theorem ris_len {S : Int} (hS : S % 4 = 0) : ∀ (l : List Int) (a : Int), l.Pairwise (· < ·) → (∀ x ∈ l, a ≤ x ∧ x < S ∧ x % 4 = 0) → a % 4 = 0 → a ≤ S → 4 * (l.length : Int) ≤ S - a
  | [], a, _, _, _, h => by simp; omega
  | y :: r, a, hp, h, ha, hle => by
    obtain ⟨h1, h2⟩ := List.pairwise_cons.1 hp
    have hy := h y (by simp)
    have := ris_len hS r (y + 4) h2 (fun x hx => by have := h x (by simp [hx]); have := h1 x hx; omega) (by omega) (by omega)
    simp only [List.length_cons, Int.natCast_add]
    omega
theorem lens_of {d : DescR} (h : RightP d) : 4 * (d.ptrs.length : Int) ≤ d.size ∧ 4 * (d.eptrs.length : Int) ≤ d.elem := by
  have h1 := ris_len h.s4 d.ptrs 0 h.p (fun x hx => h.pp x hx) (by decide) h.s0
  have h2 := ris_len h.e4 d.eptrs 0 h.q (fun x hx => h.qq x hx) (by decide) h.e0
  omega
theorem slots_small {d : DescR} (h : RightP d) (N : Nat) (hb : 8 + d.size + (N : Int) * d.elem ≤ 131072) : (slotsF d N).length ≤ 1000000 := by
  obtain ⟨h1, h2⟩ := lens_of h
  have h3 := Int.mul_le_mul_of_nonneg_left h2 (show (0 : Int) ≤ (N : Int) by omega)
  have h4 : ((N * d.eptrs.length : Nat) : Int) = (N : Int) * (d.eptrs.length : Int) := by push_cast; rfl
  rw [slots_len]
  have h5 : (N : Int) * (4 * (d.eptrs.length : Int)) = 4 * ((N : Int) * (d.eptrs.length : Int)) := by rw [← Int.mul_assoc, Int.mul_comm (N : Int) 4, Int.mul_assoc]
  omega
section
set_option maxHeartbeats 4000000 in
theorem dslots_is (A B : Option Addr) (n m c c' : Nat) (s t y : Int) (l r : List Int) (hn : n ≤ 1000000) (hm : m ≤ 1000000) (w : World) (hG : G w) (h : Il w A n l) (h' : Il w B m r) :
    Calls Tryz.prog 13 #[.agg #[.int .i64 s, .slice A n c, .int .i64 t, .slice B m c'], .int .i64 y] w (SlotsR w ⟨s, l, t, r⟩ y) := by
  have E1 := ext1 w (.cells #[.int .i64 s, .slice A n c, .int .i64 t, .slice B m c'] 24)
  by_cases hk : bytesE ⟨s, l, t, r⟩ y = 0
  · have hrl : rightB ⟨s, l, t, r⟩ = true ∧ lenB ⟨s, l, t, r⟩ y = true := by
      unfold bytesE at hk
      split at hk
      · rename_i h; split at hk
        · rename_i h2; exact ⟨h, h2⟩
        · cases hk
      · cases hk
    have hle := lenB_le hrl.2
    obtain ⟨N, rfl⟩ : ∃ k : Nat, y = k := ⟨y.toNat, by omega⟩
    have hR := right_of hrl.1
    have hbb : 8 + s + (N : Int) * t ≤ 131072 := by
      have := hrl.2
      rw [lenB_lim, Bool.and_eq_true] at this
      exact of_decide_eq_true this.2
    have hlen := slots_small hR N hbb
    have hV : slotsV ⟨s, l, t, r⟩ N = slotsF ⟨s, l, t, r⟩ N := by unfold slotsV; rw [hrl.1, hrl.2]; rfl
    have R := Lib.hid (shaped_yes A B n m c c' s t N l r hn hm _ (hG.ext E1) (h.ext E1) (h'.ext E1) hrl.1 hrl.2)
    have C := Lib.hid (fun (z : Int) (W : World) (hW : Ext w W) => collect_is _ _ _ _ hlen ((W.alloc (.cells #[.int .i64 s, .slice A n c, .int .i64 t, .slice B m c', .int .i64 N, .int .i64 z] 52)).alloc (.cells #[.int .i64 N] 3))
      (ptrs_iterU A B n m c c' s t N z l r hn hm N (by omega) W.heap.size (W.heap.size + 1) 52 3 _ hR (h.ext (Ext.trans hW (ext2 _ _ _))) (h'.ext (Ext.trans hW (ext2 _ _ _))) (at_old (Ext.refl _)) (at_new2 (Ext.refl _)))
      (by
        have hz := hW.size
        rintro k (rfl | rfl | ⟨ad, rfl, h0, rfl⟩ | ⟨ad, rfl, h0, rfl⟩)
        · simp only [World.size_alloc]; omega
        · simp only [World.size_alloc]; omega
        · obtain ⟨ad', e, hb, _⟩ := h.at_ h0
          cases e
          simp only [World.size_alloc]; omega
        · obtain ⟨ad', e, hb, _⟩ := h'.at_ h0
          cases e
          simp only [World.size_alloc]; omega) (enters_of Tryz.func42 (by kernel_rfl) rfl))
    have HE := Lib.hid E1
    have HG := Lib.hid (fun W (hW : Ext w W) => hG.ext hW)
    have HK := Lib.hid (And.intro hk hV)
    clear h h' E1 hrl hG hR hbb hlen hk hV
    generalize bytesB ⟨s, l, t, r⟩ N = z at *
    go_enter Tryz.func13, Tryz.ntmps13
    go_wp2_with (first | (go_at_call 23; (with_reducible refine R.out.mono ?_); rintro e w1 ⟨rfl, k1⟩; have K1 := Lib.hid (Ext.trans HE.out k1)) | (go_at_call 16; (with_reducible refine (told_new 0 .nilIface _ w1 (HG.out _ K1.out) code_0).mono ?_); rintro e w2 ⟨rfl, k2⟩; have K2 := Lib.hid (Ext.trans K1.out (Ext.trans (ext2 _ _ _) k2)); obtain ⟨⟨p0, p1, p2, p3, p4, p5⟩, _⟩ := cells6 (at_old k2)) | (go_at_call 25; (with_reducible refine (pointers_mk A B n m c c' s t N z N _).mono ?_); rintro e w3 ⟨rfl, rfl⟩) | (go_at_call 24; (with_reducible refine (C.out z _ K2.out).mono ?_); rintro e w4 ⟨A', c4, rfl, h4⟩; have H4 := Lib.hid h4; clear h4))
    go_ret2
    obtain ⟨q1, q2, q3⟩ := H4.out
    refine ⟨A', c4, ?_, ?_, Ext.trans K2.out (Ext.trans (ext2 _ _ _) q3)⟩
    · rw [HK.out.1, HK.out.2]; rfl
    · rw [HK.out.2]; exact q2
  · have R := Lib.hid (shaped_no A B n m c c' s t y _ l r hn hm _ (hG.ext E1) (h.ext E1) (h'.ext E1) rfl hk)
    have hV : slotsV ⟨s, l, t, r⟩ y = [] := by
      unfold bytesE at hk
      unfold slotsV
      split at hk
      · rename_i h; split at hk
        · exact absurd rfl hk
        · rename_i h2; rw [h]; simp [h2]
      · rename_i h; simp [h]
    have HK := Lib.hid hk
    have HV := Lib.hid hV
    have HZ := Lib.hid (rfl : bytesE ⟨s, l, t, r⟩ y = bytesE ⟨s, l, t, r⟩ y)
    have b0 : (bytesE ⟨s, l, t, r⟩ y != 0) = true := by simpa using hk
    have HE := Lib.hid E1
    have HG := Lib.hid (fun W (hW : Ext w W) => hG.ext hW)
    clear h h' E1 hk hG hV
    unfold SlotsR
    rw [HV.out]
    generalize bytesE ⟨s, l, t, r⟩ y = z at *
    go_enter Tryz.func13, Tryz.ntmps13
    go_wp2_with (first | (go_at_call 23; (with_reducible refine R.out.mono ?_); rintro e w1 ⟨⟨v, rfl, hv⟩, k1⟩; have K1 := Lib.hid (Ext.trans HE.out k1); have HV := Lib.hid hv; obtain ⟨te, pe, rfl⟩ := code_err hv HK.out; clear hv) | (go_at_call 16; (with_reducible refine (told_new z _ _ w1 (HG.out _ K1.out) HV.out).mono ?_); rintro e w2 ⟨rfl, k2⟩; have K2 := Lib.hid (Ext.trans K1.out (Ext.trans (ext2 _ _ _) k2))))
    go_ret2
    exact ⟨none, 0, rfl, ⟨rfl, fun h => absurd h (by decide)⟩, K2.out⟩
end
end Go.Proofs.YtgmpcinlkiiboaaGreatDoor
