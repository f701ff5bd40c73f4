/- selionref04: Kind. -/
import Derived.Test.YtgmpcinlkiiboaaDoorKindR
import Derived.Test.YtgmpcinlkiiboaaDoorBytesR
import Derived.Test.YtgmpcinlkiiboaaDoorVals
namespace Go.Proofs.YtgmpcinlkiiboaaDoor
open Go.RowKit Go
section
set_option maxHeartbeats 4000000 in
set_option maxRecDepth 100000 in
theorem kind2_is (A B : Option Addr) (n m c e : Nat) (s t : Int) (l r : List Int) (hn : n ≤ 1000000) (hm : m ≤ 1000000) (y x : Int) (w : World) (h : Il w A n l) (h' : Il w B m r) :
    Calls Tryd.prog 13 #[.agg #[.int .i64 s, .slice A n c, .int .i64 t, .slice B m e], .int .i64 y, .int .i64 x] w fun e w' => e = .returned (.tuple #[.int .i64 (kindV ⟨s, l, t, r⟩ y x), .int .i64 (bytesE ⟨s, l, t, r⟩ y)]) ∧ Ext w w' := by
  have E1 := ext1 w (.cells #[.int .i64 s, .slice A n c, .int .i64 t, .slice B m e] 24)
  have HE := Lib.hid E1
  have RB := Lib.hid (fun W (hW : Ext (w.alloc (.cells #[.int .i64 s, .slice A n c, .int .i64 t, .slice B m e] 24)) W) => bytes_is A B n m c e s t l r hn hm y W (h.ext (Ext.trans E1 hW)) (h'.ext (Ext.trans E1 hW)))
  by_cases hok : (rightB ⟨s, l, t, r⟩ && lenB ⟨s, l, t, r⟩ y) = true
  · have hk := hok
    rw [Bool.and_eq_true] at hk
    obtain ⟨hr, hl⟩ := hk
    have hle := lenB_le hl
    have hR := right_of hr
    obtain ⟨S, rfl⟩ : ∃ k : Nat, s = k := ⟨s.toNat, by have : 0 ≤ s := hR.s0; omega⟩
    obtain ⟨T, rfl⟩ : ∃ k : Nat, t = k := ⟨t.toNat, by have : 0 ≤ t := hR.e0; omega⟩
    obtain ⟨X, rfl⟩ : ∃ k : Nat, y = k := ⟨y.toNat, by omega⟩
    have RK := Lib.hid (fun W (hW : Ext (w.alloc (.cells #[.int .i64 (S : Int), .slice A n c, .int .i64 (T : Int), .slice B m e] 24)) W) => kind_is A B n m c e S T l r hn hm X (by omega) x W (h.ext (Ext.trans E1 hW)) (h'.ext (Ext.trans E1 hW)) hr)
    have he : bytesE ⟨S, l, T, r⟩ X = 0 := by unfold bytesE; rw [hr, hl]; rfl
    have HN := Lib.hid (show Value.tuple #[.int .i64 (kindP ⟨S, l, T, r⟩ X x), .int .i64 0] = .tuple #[.int .i64 (kindV ⟨S, l, T, r⟩ X x), .int .i64 (bytesE ⟨S, l, T, r⟩ X)] by rw [he, kindV, hok]; rfl)
    rw [he] at RB
    clear hR hr hl hle hok he h h' E1
    go_enter Tryd.func13, Tryd.ntmps13
    go_wp2_with (first | (go_at_call 11; with_reducible refine (RB.out _ (Ext.refl _)).mono ?_; rintro e w1 ⟨rfl, k1⟩; have p0 := (at_new k1).cell 0; have p1 := (at_new k1).cell 1; have p2 := (at_new k1).cell 2; have p3 := (at_new k1).cell 3; simp at p0 p1 p2 p3) | (go_at_call 28; with_reducible refine (RK.out _ k1).mono ?_; rintro e w2 ⟨rfl, k2⟩))
    go_ret2
    exact ⟨ret_val HN.out, Ext.trans HE.out (Ext.trans k1 k2)⟩
  · have he : (bytesE ⟨s, l, t, r⟩ y != 0) = true := by
      unfold bytesE
      cases hr : rightB ⟨s, l, t, r⟩
      · rfl
      · cases hl : lenB ⟨s, l, t, r⟩ y
        · rfl
        · rw [hr, hl] at hok; simp at hok
    have HN := Lib.hid (show Value.tuple #[.int .i64 0, .int .i64 (bytesE ⟨s, l, t, r⟩ y)] = .tuple #[.int .i64 (kindV ⟨s, l, t, r⟩ y x), .int .i64 (bytesE ⟨s, l, t, r⟩ y)] by rw [kindV, if_neg hok])
    clear hok h h' E1
    generalize bytesE ⟨s, l, t, r⟩ y = z at *
    generalize bytesV ⟨s, l, t, r⟩ y = z2 at *
    go_enter Tryd.func13, Tryd.ntmps13
    go_wp2_with (go_at_call 11; with_reducible refine (RB.out _ (Ext.refl _)).mono ?_; rintro e w1 ⟨rfl, k1⟩)
    go_ret2
    exact ⟨ret_val HN.out, Ext.trans HE.out k1⟩
end
end Go.Proofs.YtgmpcinlkiiboaaDoor
