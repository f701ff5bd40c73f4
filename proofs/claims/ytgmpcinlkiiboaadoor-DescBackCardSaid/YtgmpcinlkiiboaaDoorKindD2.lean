/- desc: Kind. -/
import Derived.Test.YtgmpcinlkiiboaaDoorKindD
namespace Go.Proofs.YtgmpcinlkiiboaaDoor
open Go.RowKit Go
section
set_option maxHeartbeats 4000000 in
theorem dkind_is (A B : Option Addr) (n m c c' : Nat) (s t y x : Int) (l r : List Int) (hn : n ≤ 1000000) (hm : m ≤ 1000000) (w : World) (hG : G w) (h : Il w A n l) (h' : Il w B m r) :
    Calls Tryd.prog 12 #[.agg #[.int .i64 s, .slice A n c, .int .i64 t, .slice B m c'], .int .i64 y, .int .i64 x] w fun e w' => e = .returned (.tuple #[.int .i64 (kindV ⟨s, l, t, r⟩ y x), .int .i64 (bytesE ⟨s, l, t, r⟩ y)]) ∧ Ext w w' := by
  have E1 := ext1 w (.cells #[.int .i64 s, .slice A n c, .int .i64 t, .slice B m c'] 24)
  by_cases hk : bytesE ⟨s, l, t, r⟩ y = 0
  · have hrl : rightB ⟨s, l, t, r⟩ = true ∧ lenB ⟨s, l, t, r⟩ y = true := by
      unfold bytesE at hk
      split at hk
      · rename_i h; split at hk
        · rename_i h2; exact ⟨h, h2⟩
        · cases hk
      · cases hk
    have hle := lenB_le hrl.2
    have hR := right_of hrl.1
    have hbb : 8 + s + y * t ≤ 131072 := by
      have := hrl.2
      rw [lenB_lim, Bool.and_eq_true] at this
      exact of_decide_eq_true this.2
    have hV : kindV ⟨s, l, t, r⟩ y x = kindP ⟨s, l, t, r⟩ y x := by unfold kindV; rw [hrl.1, hrl.2]; rfl
    have R := Lib.hid (shaped_yes A B n m c c' s t y l r hn hm _ (hG.ext E1) (h.ext E1) (h'.ext E1) hrl.1 hrl.2)
    have C := Lib.hid (fun (z : Int) (W : World) (hW : Ext w W) => kindS_is A B n m c c' s t y z x l r hn hm hR hle (by omega) W (h.ext hW) (h'.ext hW))
    have HE := Lib.hid E1
    have HG := Lib.hid (fun W (hW : Ext w W) => hG.ext hW)
    have HN := Lib.hid (show Value.tuple #[.int .i64 (kindP ⟨s, l, t, r⟩ y x), .int .i64 0] = .tuple #[.int .i64 (kindV ⟨s, l, t, r⟩ y x), .int .i64 (bytesE ⟨s, l, t, r⟩ y)] by rw [hk, hV])
    clear h h' E1 hrl hG hR hbb hk hV
    generalize bytesB ⟨s, l, t, r⟩ y = z at *
    go_enter Tryd.func12, Tryd.ntmps12
    go_wp2_with (first | (go_at_call 25; (with_reducible refine R.out.mono ?_); rintro e w1 ⟨rfl, k1⟩; have K1 := Lib.hid (Ext.trans HE.out k1)) | (go_at_call 26; (with_reducible refine (told_new 0 .nilIface _ w1 (HG.out _ K1.out) code_0).mono ?_); rintro e w2 ⟨rfl, k2⟩; have K2 := Lib.hid (Ext.trans K1.out (Ext.trans (ext2 _ _ _) k2)); obtain ⟨⟨p0, p1, p2, p3, p4, p5⟩, _⟩ := cells6 (at_old k2)) | (go_at_call 27; (with_reducible refine (C.out z _ K2.out).mono ?_); rintro e w3 ⟨rfl, k3⟩; have K3 := Lib.hid (Ext.trans K2.out k3)))
    go_ret2
    exact ⟨ret_val HN.out, K3.out⟩
  · have R := Lib.hid (shaped_no A B n m c c' s t y _ l r hn hm _ (hG.ext E1) (h.ext E1) (h'.ext E1) rfl hk)
    have hV : kindV ⟨s, l, t, r⟩ y x = 0 := by
      unfold bytesE at hk
      unfold kindV
      split at hk
      · rename_i h; split at hk
        · exact absurd rfl hk
        · rename_i h2; rw [h]; simp [h2]
      · rename_i h; simp [h]
    have HK := Lib.hid hk
    have HN := Lib.hid (show Value.tuple #[.int .i64 0, .int .i64 (bytesE ⟨s, l, t, r⟩ y)] = .tuple #[.int .i64 (kindV ⟨s, l, t, r⟩ y x), .int .i64 (bytesE ⟨s, l, t, r⟩ y)] by rw [hV])
    have b0 : (bytesE ⟨s, l, t, r⟩ y != 0) = true := by simpa using hk
    have HE := Lib.hid E1
    have HG := Lib.hid (fun W (hW : Ext w W) => hG.ext hW)
    clear h h' E1 hk hG hV
    generalize bytesE ⟨s, l, t, r⟩ y = z at *
    go_enter Tryd.func12, Tryd.ntmps12
    go_wp2_with (first | (go_at_call 25; (with_reducible refine R.out.mono ?_); rintro e w1 ⟨⟨v, rfl, hv⟩, k1⟩; have K1 := Lib.hid (Ext.trans HE.out k1); have HV := Lib.hid hv; obtain ⟨te, pe, rfl⟩ := code_err hv HK.out; clear hv) | (go_at_call 26; (with_reducible refine (told_new z _ _ w1 (HG.out _ K1.out) HV.out).mono ?_); rintro e w2 ⟨rfl, k2⟩; have K2 := Lib.hid (Ext.trans K1.out (Ext.trans (ext2 _ _ _) k2))))
    go_ret2
    exact ⟨ret_val HN.out, K2.out⟩
end
end Go.Proofs.YtgmpcinlkiiboaaDoor
