/- desc: its reader's small calls: fail, has, must. -/
import Derived.Test.YtgmpcinlkiiboaaDoorScan
import Derived.Test.YtgmpcinlkiiboaaDoorBytesD
import Derived.Test.YtgmpcinlkiiboaaDoorBy
namespace Go.Proofs.YtgmpcinlkiiboaaDoor
open Go.RowKit Go
abbrev tv (l : List UInt8) : Value := .string ⟨l.toArray⟩
/-- In block b lies a reader. -/
def Rdr (w : World) (b : Nat) (st : St) : Prop := ∃ ev, Blk w b #[tv st.1, ev] 90 ∧ Code ev (codeI (!st.2) 40)
theorem bx_size (s : List UInt8) : (ByteArray.mk s.toArray).size = s.length := by show s.toArray.size = _; simp
theorem bx_list (s : List UInt8) : (ByteArray.mk s.toArray).toList = s := by rw [ByteArray.toList_eq]
theorem bx_take (s : List UInt8) (k : Nat) : (ByteArray.mk s.toArray).extract 0 k = ⟨(s.take k).toArray⟩ := by apply ByteArray.ext; rw [ByteArray.data_extract]; simp
theorem bx_drop (s : List UInt8) (k : Nat) : (ByteArray.mk s.toArray).extract k (ByteArray.mk s.toArray).size = ⟨(s.drop k).toArray⟩ := by
  apply ByteArray.ext; rw [ByteArray.data_extract, bx_size]
  simp
  exact List.take_of_length_le (by simp)
theorem bx_drop' (s : List UInt8) (k : Nat) : (ByteArray.mk s.toArray).extract k s.length = ⟨(s.drop k).toArray⟩ := by rw [← bx_drop, bx_size]
theorem hasQ_eq (g s : List UInt8) : hasQ g s = (decide (g.length ≤ s.length) && (s.take g.length == g)) := by
  rw [Bool.eq_iff_iff]
  unfold hasQ
  rw [List.isPrefixOf_iff_prefix, Bool.and_eq_true, decide_eq_true_eq, beq_iff_eq, List.prefix_iff_eq_take]
  constructor
  · intro h; exact ⟨by have := congrArg List.length h; simp at this; omega, h.symm⟩
  · rintro ⟨_, h⟩; exact h.symm
section
set_option maxHeartbeats 1000000 in
theorem hasPrefix_is (g s : List UInt8) (hg : g.length ≤ 100000) (hs : s.length ≤ 100000) (w : World) :
    Calls Tryd.prog 87 #[tv s, tv g] w fun e w' => e = .returned (.bool (hasQ g s)) ∧ Ext w w' := by
  have HQ := Lib.hid (hasQ_eq g s)
  have x0 := bx_size s
  have x1 := bx_size g
  have HT := Lib.hid (show ((ByteArray.mk s.toArray).extract 0 (ByteArray.mk g.toArray).size).toList = s.take g.length by rw [bx_size, bx_take, bx_list])
  have HG := Lib.hid (bx_list g)
  unfold tv
  generalize ByteArray.mk s.toArray = X at *
  generalize ByteArray.mk g.toArray = Y at *
  have hX : X.size ≤ 100000 := by omega
  have hY : Y.size ≤ 100000 := by omega
  have X01 := Lib.hid (And.intro x0 x1)
  clear x0 x1
  by_cases h1 : (Y.size : Int) ≤ X.size
  · have h2 : Y.size ≤ X.size := by omega
    have HN := Lib.hid (show ((X.extract 0 Y.size).toList == Y.toList) = hasQ g s by rw [HQ.out, HT.out, HG.out, show decide (g.length ≤ s.length) = true from decide_eq_true (by have := X01.out; omega)]; rfl)
    go_enter Tryd.func87, Tryd.ntmps87
    go_wp2
    go_ret
    exact ⟨rb HN.out, Ext.refl _⟩
  · have HN := Lib.hid (show false = hasQ g s by rw [HQ.out, show decide (g.length ≤ s.length) = false from decide_eq_false (by have := X01.out; omega)]; rfl)
    go_enter Tryd.func87, Tryd.ntmps87
    go_wp2
    go_ret
    exact ⟨rb HN.out, Ext.refl _⟩
def cutQ (g s : List UInt8) : List UInt8 := if hasQ g s then s.drop g.length else s
set_option maxHeartbeats 1000000 in
theorem cutPrefix_is (g s : List UInt8) (hg : g.length ≤ 100000) (hs : s.length ≤ 100000) (w : World) :
    Calls Tryd.prog 75 #[tv s, tv g] w fun e w' => e = .returned (.tuple #[tv (cutQ g s), .bool (hasQ g s)]) ∧ Ext w w' := by
  have C : ∀ w, Calls Tryd.prog 81 #[tv s, tv g] w fun e w' => e = .returned (.tuple #[tv (cutQ g s), .bool (hasQ g s)]) ∧ Ext w w' := fun w => by
    have R := Lib.hid (hasPrefix_is g s hg hs w)
    have x0 := bx_size s
    have x1 := bx_size g
    cases hq : hasQ g s
    · rw [hq] at R
      have HC := Lib.hid (show tv s = tv (cutQ g s) by rw [cutQ, hq]; rfl)
      clear hq
      unfold tv at *
      generalize ByteArray.mk s.toArray = X at *
      generalize ByteArray.mk g.toArray = Y at *
      clear x0 x1
      go_enter Tryd.func81, Tryd.ntmps81
      go_wp2_with (go_at_call 87; (with_reducible refine R.out.mono ?_); rintro e w1 ⟨rfl, k1⟩)
      go_ret2
      exact ⟨by rw [← HC.out]; rfl, k1⟩
    · rw [hq] at R
      have hle : g.length ≤ s.length := by
        rw [hasQ_eq, Bool.and_eq_true] at hq
        exact of_decide_eq_true hq.1
      have HC := Lib.hid (show Value.string ((ByteArray.mk s.toArray).extract (ByteArray.mk g.toArray).size (ByteArray.mk s.toArray).size) = tv (cutQ g s) by rw [cutQ, hq, bx_size, bx_drop]; rfl)
      clear hq
      unfold tv at *
      generalize ByteArray.mk s.toArray = X at *
      generalize ByteArray.mk g.toArray = Y at *
      have h1 : (Y.size : Int) ≤ X.size := by omega
      have hX : X.size ≤ 100000 := by omega
      clear x0 x1
      go_enter Tryd.func81, Tryd.ntmps81
      go_wp2_with (go_at_call 87; (with_reducible refine R.out.mono ?_); rintro e w1 ⟨rfl, k1⟩)
      go_ret2
      exact ⟨by rw [← HC.out]; rfl, k1⟩
  have C' := Lib.hid (C w)
  clear C
  generalize hasQ g s = b at *
  go_enter Tryd.func75, Tryd.ntmps75
  go_wp2_with (go_at_call 81; (refine C'.out.mono ?_); rintro e w1 ⟨rfl, k1⟩)
  go_ret2
  exact ⟨rfl, k1⟩
end
end Go.Proofs.YtgmpcinlkiiboaaDoor
