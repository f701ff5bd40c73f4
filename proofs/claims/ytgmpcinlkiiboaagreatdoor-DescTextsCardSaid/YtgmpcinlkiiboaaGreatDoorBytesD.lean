/- desc: told at one and at two; shaped, in two; Bytes. -/
import Derived.Test.YtgmpcinlkiiboaaGreatDoorShaped
namespace Go.Proofs.YtgmpcinlkiiboaaGreatDoor
open Go.RowKit Go
theorem told1_is (k : Int) (v : Value) (b : Nat) (t : TypeId) (w : World) (hG : G w) (hB : Blk w b #[v] t) (hv : Code v k) :
    Calls Tryz.prog 16 #[.slice (some ⟨b, 0, none⟩) 1 1] w fun e w' => e = .returned (.int .i64 k) ∧ Ext w w' := by
  have h := told_any [k] b 1 w hG (by simp) hB.lt (fun i hi => by
    obtain rfl : i = 0 := by simp at hi; exact hi
    exact ⟨v, by rw [hB.cell]; rfl, hv⟩)
  have e : firstI [k] = k := by simp [firstI]; intro h; exact h.symm
  rwa [e] at h
theorem told_new (k : Int) (v : Value) (o : Obj) (w : World) (hG : G w) (hv : Code v k) :
    Calls Tryz.prog 16 #[.slice (some ⟨w.heap.size + 1, 0, none⟩) 1 1] ((w.alloc o).alloc (.cells #[v] 43)) fun e w' => e = .returned (.int .i64 k) ∧ Ext ((w.alloc o).alloc (.cells #[v] 43)) w' :=
  told1_is k v _ 43 _ (hG.ext (ext2 _ _ _)) (at_new2 (Ext.refl _)) hv
def first2 (j k : Int) : Int := if j = 0 then k else j
theorem told2_is (j k : Int) (u v : Value) (b : Nat) (t : TypeId) (w : World) (hG : G w) (hB : Blk w b #[u, v] t) (hu : Code u j) (hv : Code v k) :
    Calls Tryz.prog 16 #[.slice (some ⟨b, 0, none⟩) 2 2] w fun e w' => e = .returned (.int .i64 (first2 j k)) ∧ Ext w w' := by
  have h := told_any [j, k] b 2 w hG (by simp) hB.lt (fun i hi => by
    have hi' : i = 0 ∨ i = 1 := by simp at hi; omega
    rcases hi' with rfl | rfl
    · exact ⟨u, by rw [hB.cell]; rfl, hu⟩
    · exact ⟨v, by rw [hB.cell]; rfl, hv⟩)
  have e : firstI [j, k] = first2 j k := by
    simp only [firstI, first2]
    split
    · split
      · rename_i h; exact h.symm
      · rfl
    · rfl
  rwa [e] at h
theorem shaped_no (A B : Option Addr) (n m c c' : Nat) (s t y k : Int) (l r : List Int) (hn : n ≤ 1000000) (hm : m ≤ 1000000) (w : World) (hG : G w) (h : Il w A n l) (h' : Il w B m r) (hk : bytesE ⟨s, l, t, r⟩ y = k) (h0 : k ≠ 0) :
    Calls Tryz.prog 23 #[.agg #[.int .i64 s, .slice A n c, .int .i64 t, .slice B m c'], .int .i64 y] w fun e w' => (∃ v, e = .returned (.tuple #[.agg zeroS, v]) ∧ Code v k) ∧ Ext w w' := by
  cases hr : rightB ⟨s, l, t, r⟩
  · obtain rfl : k = 40 := by rw [← hk]; unfold bytesE; rw [hr]; rfl
    exact shaped_40 A B n m c c' s t y l r hn hm w hG h h' hr
  · have hL := lenB_lim ⟨s, l, t, r⟩ y
    cases hl : limB t y
    · have e : lenB ⟨s, l, t, r⟩ y = false := by rw [hL]; simp [hl]
      obtain rfl : k = 41 := by rw [← hk]; unfold bytesE; rw [hr, e]; rfl
      exact shaped_41a A B n m c c' s t y l r hn hm w hG h h' hr hl
    · by_cases hb : 8 + s + y * t ≤ 131072
      · have e : lenB ⟨s, l, t, r⟩ y = true := by rw [hL]; simp [hl, hb]
        exact absurd (by rw [← hk]; unfold bytesE; rw [hr, e]; rfl) h0
      · have e : lenB ⟨s, l, t, r⟩ y = false := by rw [hL]; simp [hb]
        obtain rfl : k = 41 := by rw [← hk]; unfold bytesE; rw [hr, e]; rfl
        exact shaped_41b A B n m c c' s t y l r hn hm w hG h h' hr hl (by omega)
theorem shaped_yes (A B : Option Addr) (n m c c' : Nat) (s t y : Int) (l r : List Int) (hn : n ≤ 1000000) (hm : m ≤ 1000000) (w : World) (hG : G w) (h : Il w A n l) (h' : Il w B m r) (hr : rightB ⟨s, l, t, r⟩ = true) (hl : lenB ⟨s, l, t, r⟩ y = true) :
    Calls Tryz.prog 23 #[.agg #[.int .i64 s, .slice A n c, .int .i64 t, .slice B m c'], .int .i64 y] w fun e w' => e = .returned (.tuple #[.agg #[.int .i64 s, .slice A n c, .int .i64 t, .slice B m c', .int .i64 y, .int .i64 (bytesB ⟨s, l, t, r⟩ y)], .nilIface]) ∧ Ext w w' := by
  rw [lenB_lim, Bool.and_eq_true] at hl
  exact shaped_ok A B n m c c' s t y l r hn hm w hG h h' hr hl.1 (of_decide_eq_true hl.2)
theorem code_0 : Code .nilIface 0 := .inl ⟨rfl, rfl⟩
section
set_option maxHeartbeats 4000000 in
theorem dbytes_is (A B : Option Addr) (n m c c' : Nat) (s t y : Int) (l r : List Int) (hn : n ≤ 1000000) (hm : m ≤ 1000000) (w : World) (hG : G w) (h : Il w A n l) (h' : Il w B m r) :
    Calls Tryz.prog 12 #[.agg #[.int .i64 s, .slice A n c, .int .i64 t, .slice B m c'], .int .i64 y] w fun e w' => e = .returned (.tuple #[.int .i64 (bytesV ⟨s, l, t, r⟩ y), .int .i64 (bytesE ⟨s, l, t, r⟩ y)]) ∧ Ext w w' := by
  have E1 := ext1 w (.cells #[.int .i64 s, .slice A n c, .int .i64 t, .slice B m c'] 24)
  by_cases hk : bytesE ⟨s, l, t, r⟩ y = 0
  · have hrl : rightB ⟨s, l, t, r⟩ = true ∧ lenB ⟨s, l, t, r⟩ y = true := by
      unfold bytesE at hk
      split at hk
      · rename_i h; split at hk
        · rename_i h2; exact ⟨h, h2⟩
        · cases hk
      · cases hk
    have R := Lib.hid (shaped_yes A B n m c c' s t y l r hn hm _ (hG.ext E1) (h.ext E1) (h'.ext E1) hrl.1 hrl.2)
    have HN := Lib.hid (show Value.tuple #[.int .i64 (bytesB ⟨s, l, t, r⟩ y), .int .i64 0] = .tuple #[.int .i64 (bytesV ⟨s, l, t, r⟩ y), .int .i64 (bytesE ⟨s, l, t, r⟩ y)] by rw [hk, bytesV, hrl.1, hrl.2]; rfl)
    have HE := Lib.hid E1
    have HG := Lib.hid (fun W (hW : Ext w W) => hG.ext hW)
    clear h h' E1 hk hrl hG
    generalize bytesB ⟨s, l, t, r⟩ y = z at *
    go_enter Tryz.func12, Tryz.ntmps12
    go_wp2_with (first | (go_at_call 23; (with_reducible refine R.out.mono ?_); rintro e w1 ⟨rfl, k1⟩; have K1 := Lib.hid (Ext.trans HE.out k1)) | (go_at_call 16; (with_reducible refine (told_new 0 .nilIface _ w1 (HG.out _ K1.out) code_0).mono ?_); rintro e w2 ⟨rfl, k2⟩; have K2 := Lib.hid (Ext.trans K1.out (Ext.trans (ext2 _ _ _) k2)); obtain ⟨⟨p0, p1, p2, p3, p4, p5⟩, _⟩ := cells6 (at_old k2)))
    go_ret2
    exact ⟨ret_val HN.out, K2.out⟩
  · have R := Lib.hid (shaped_no A B n m c c' s t y _ l r hn hm _ (hG.ext E1) (h.ext E1) (h'.ext E1) rfl hk)
    have HN := Lib.hid (show Value.tuple #[.int .i64 0, .int .i64 (bytesE ⟨s, l, t, r⟩ y)] = .tuple #[.int .i64 (bytesV ⟨s, l, t, r⟩ y), .int .i64 (bytesE ⟨s, l, t, r⟩ y)] by
      have : bytesV ⟨s, l, t, r⟩ y = 0 := by
        unfold bytesE at hk
        unfold bytesV
        split at hk
        · rename_i h; split at hk
          · exact absurd rfl hk
          · rename_i h2; rw [h]; simp [h2]
        · rename_i h; simp [h]
      rw [this])
    have HK := Lib.hid hk
    have b0 : (bytesE ⟨s, l, t, r⟩ y != 0) = true := by simpa using hk
    have HE := Lib.hid E1
    have HG := Lib.hid (fun W (hW : Ext w W) => hG.ext hW)
    clear h h' E1 hk hG
    generalize bytesE ⟨s, l, t, r⟩ y = z at *
    go_enter Tryz.func12, Tryz.ntmps12
    go_wp2_with (first | (go_at_call 23; (with_reducible refine R.out.mono ?_); rintro e w1 ⟨⟨v, rfl, hv⟩, k1⟩; have K1 := Lib.hid (Ext.trans HE.out k1); have HV := Lib.hid hv; obtain ⟨te, pe, rfl⟩ := code_err hv HK.out; clear hv) | (go_at_call 16; (with_reducible refine (told_new z _ _ w1 (HG.out _ K1.out) HV.out).mono ?_); rintro e w2 ⟨rfl, k2⟩; have K2 := Lib.hid (Ext.trans K1.out (Ext.trans (ext2 _ _ _) k2))))
    go_ret2
    exact ⟨ret_val HN.out, K2.out⟩
end
end Go.Proofs.YtgmpcinlkiiboaaGreatDoor
