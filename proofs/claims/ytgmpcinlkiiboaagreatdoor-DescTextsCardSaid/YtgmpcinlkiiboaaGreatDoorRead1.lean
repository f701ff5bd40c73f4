/- desc: its reader's small calls: fail, has, must. desc: its reader's small calls, in memory: fail, has, must. -/
import Derived.Test.YtgmpcinlkiiboaaGreatDoorScan
import Derived.Test.YtgmpcinlkiiboaaGreatDoorBytesD
import Derived.Test.YtgmpcinlkiiboaaGreatDoorBy
namespace Go.Proofs.YtgmpcinlkiiboaaGreatDoor
open Go.RowKit Go
abbrev tv (l : List UInt8) : Value := .string ⟨l.toArray⟩
/-- In block b lies a reader. -/
def Rdr (w : World) (b : Nat) (st : St) : Prop := ∃ ev, Blk w b #[tv st.1, ev] 76 ∧ Code ev (codeI (!st.2) 40)
theorem bx_size (s : List UInt8) : (ByteArray.mk s.toArray).size = s.length := by show s.toArray.size = _; simp
theorem bx_list (s : List UInt8) : (ByteArray.mk s.toArray).toList = s := by rw [ByteArray.toList_eq]
theorem bx_take (s : List UInt8) (k : Nat) : (ByteArray.mk s.toArray).extract 0 k = ⟨(s.take k).toArray⟩ := by apply ByteArray.ext; rw [ByteArray.data_extract]; simp
theorem bx_drop (s : List UInt8) (k : Nat) : (ByteArray.mk s.toArray).extract k (ByteArray.mk s.toArray).size = ⟨(s.drop k).toArray⟩ := by
  apply ByteArray.ext; rw [ByteArray.data_extract, bx_size]
  simp
  exact List.take_of_length_le (by simp)
theorem bx_drop' (s : List UInt8) (k : Nat) : (ByteArray.mk s.toArray).extract k s.length = ⟨(s.drop k).toArray⟩ := by rw [← bx_drop, bx_size]
theorem hasQ_eq (g s : List UInt8) : hasQ g s = (decide (g.length ≤ s.length) && (s.take g.length == g)) := by
  rw [Bool.eq_iff_iff]
  unfold hasQ
  rw [List.isPrefixOf_iff_prefix, Bool.and_eq_true, decide_eq_true_eq, beq_iff_eq, List.prefix_iff_eq_take]
  constructor
  · intro h; exact ⟨by have := congrArg List.length h; simp at this; omega, h.symm⟩
  · rintro ⟨_, h⟩; exact h.symm
section
set_option maxHeartbeats 1000000 in
theorem hasPrefix_is (g s : List UInt8) (hg : g.length ≤ 100000) (hs : s.length ≤ 100000) (w : World) :
    Calls Tryz.prog 80 #[tv s, tv g] w fun e w' => e = .returned (.bool (hasQ g s)) ∧ Ext w w' := by
  have HQ := Lib.hid (hasQ_eq g s)
  have x0 := bx_size s
  have x1 := bx_size g
  have HT := Lib.hid (show ((ByteArray.mk s.toArray).extract 0 (ByteArray.mk g.toArray).size).toList = s.take g.length by rw [bx_size, bx_take, bx_list])
  have HG := Lib.hid (bx_list g)
  unfold tv
  generalize ByteArray.mk s.toArray = X at *
  generalize ByteArray.mk g.toArray = Y at *
  have hX : X.size ≤ 100000 := by omega
  have hY : Y.size ≤ 100000 := by omega
  have X01 := Lib.hid (And.intro x0 x1)
  clear x0 x1
  by_cases h1 : (Y.size : Int) ≤ X.size
  · have h2 : Y.size ≤ X.size := by omega
    have HN := Lib.hid (show ((X.extract 0 Y.size).toList == Y.toList) = hasQ g s by rw [HQ.out, HT.out, HG.out, show decide (g.length ≤ s.length) = true from decide_eq_true (by have := X01.out; omega)]; rfl)
    go_enter Tryz.func80, Tryz.ntmps80
    go_wp2
    go_ret
    exact ⟨rb HN.out, Ext.refl _⟩
  · have HN := Lib.hid (show false = hasQ g s by rw [HQ.out, show decide (g.length ≤ s.length) = false from decide_eq_false (by have := X01.out; omega)]; rfl)
    go_enter Tryz.func80, Tryz.ntmps80
    go_wp2
    go_ret
    exact ⟨rb HN.out, Ext.refl _⟩
def cutQ (g s : List UInt8) : List UInt8 := if hasQ g s then s.drop g.length else s
set_option maxHeartbeats 1000000 in
theorem cutPrefix_is (g s : List UInt8) (hg : g.length ≤ 100000) (hs : s.length ≤ 100000) (w : World) :
    Calls Tryz.prog 63 #[tv s, tv g] w fun e w' => e = .returned (.tuple #[tv (cutQ g s), .bool (hasQ g s)]) ∧ Ext w w' := by
  have C : ∀ w, Calls Tryz.prog 72 #[tv s, tv g] w fun e w' => e = .returned (.tuple #[tv (cutQ g s), .bool (hasQ g s)]) ∧ Ext w w' := fun w => by
    have R := Lib.hid (hasPrefix_is g s hg hs w)
    have x0 := bx_size s
    have x1 := bx_size g
    cases hq : hasQ g s
    · rw [hq] at R
      have HC := Lib.hid (show tv s = tv (cutQ g s) by rw [cutQ, hq]; rfl)
      clear hq
      unfold tv at *
      generalize ByteArray.mk s.toArray = X at *
      generalize ByteArray.mk g.toArray = Y at *
      clear x0 x1
      go_enter Tryz.func72, Tryz.ntmps72
      go_wp2_with (go_at_call 80; (with_reducible refine R.out.mono ?_); rintro e w1 ⟨rfl, k1⟩)
      go_ret2
      exact ⟨by rw [← HC.out]; rfl, k1⟩
    · rw [hq] at R
      have hle : g.length ≤ s.length := by
        rw [hasQ_eq, Bool.and_eq_true] at hq
        exact of_decide_eq_true hq.1
      have HC := Lib.hid (show Value.string ((ByteArray.mk s.toArray).extract (ByteArray.mk g.toArray).size (ByteArray.mk s.toArray).size) = tv (cutQ g s) by rw [cutQ, hq, bx_size, bx_drop]; rfl)
      clear hq
      unfold tv at *
      generalize ByteArray.mk s.toArray = X at *
      generalize ByteArray.mk g.toArray = Y at *
      have h1 : (Y.size : Int) ≤ X.size := by omega
      have hX : X.size ≤ 100000 := by omega
      clear x0 x1
      go_enter Tryz.func72, Tryz.ntmps72
      go_wp2_with (go_at_call 80; (with_reducible refine R.out.mono ?_); rintro e w1 ⟨rfl, k1⟩)
      go_ret2
      exact ⟨by rw [← HC.out]; rfl, k1⟩
  have C' := Lib.hid (C w)
  clear C
  generalize hasQ g s = b at *
  go_enter Tryz.func63, Tryz.ntmps63
  go_wp2_with (go_at_call 72; (refine C'.out.mono ?_); rintro e w1 ⟨rfl, k1⟩)
  go_ret2
  exact ⟨rfl, k1⟩
end
theorem Rdr.ext {w w' : World} {b : Nat} {st : St} (h : Rdr w b st) (k : Ext w w') : Rdr w' b st := by
  obtain ⟨ev, h1, h2⟩ := h
  exact ⟨ev, h1.ext k, h2⟩
theorem Rdr.lt {w : World} {b : Nat} {st : St} (h : Rdr w b st) : b < w.heap.size := by obtain ⟨ev, h1, _⟩ := h; exact h1.lt
section
set_option maxHeartbeats 1000000 in
theorem fail_is (b : Nat) (st : St) (w : World) (hG : G w) (hb : 9 ≤ b) (h : Rdr w b st) :
    Calls Tryz.prog 37 #[.pointer (some ⟨b, 0, none⟩)] w fun e w' => (∃ v, e = .returned v) ∧ Rdr w' b ([], true) ∧ Chg b w w' := by
  obtain ⟨ev, hB, _⟩ := h
  obtain ⟨te, pe, hc⟩ := hG.d2
  have p0 := hB.cell 0
  have p1 := hB.cell 1
  have q0 := hB.frozen 0
  have q1 := hB.frozen 1
  simp only [List.getElem?_toArray, List.getElem?_cons_zero, List.getElem?_cons_succ] at p0 p1
  have hne : 3 ≠ b := by omega
  have H := Lib.hid hB
  clear hB hG
  unfold tv at *
  generalize ByteArray.mk st.1.toArray = X at *
  go_enter Tryz.func37, Tryz.ntmps37
  go_wp2
  go_end0
  refine ⟨⟨_, rfl⟩, ⟨_, ?_, code_unless false 40 (by decide) te pe⟩, ((Chg.refl b w).setCell 0 _).setCell 1 _⟩
  have h3 := (H.out.set 0 (.string ⟨#[]⟩)).set 1 (.iface 62 (.agg #[.int .i64 40, .iface te pe]))
  simp only [List.setIfInBounds_toArray, List.set_cons_zero, List.set_cons_succ] at h3
  exact h3
set_option maxHeartbeats 1000000 in
theorem has_is (b : Nat) (st : St) (g : List UInt8) (hl : st.1.length ≤ 100000) (hg : g.length ≤ 100) (w : World) (h : Rdr w b st) :
    Calls Tryz.prog 54 #[.pointer (some ⟨b, 0, none⟩), tv g] w fun e w' => e = .returned (.bool (hasQ g st.1)) ∧ Rdr w' b (cutQ g st.1, st.2) ∧ Chg b w w' := by
  obtain ⟨ev, hB, hv⟩ := h
  have p0 := hB.cell 0
  have p1 := hB.cell 1
  have q0 := hB.frozen 0
  have q1 := hB.frozen 1
  simp only [List.getElem?_toArray, List.getElem?_cons_zero, List.getElem?_cons_succ] at p0 p1
  have C := Lib.hid (fun w => cutPrefix_is g st.1 (by omega) hl w)
  have H := Lib.hid (And.intro hB hv)
  have HS := Lib.hid (rfl : tv (cutQ g st.1) = tv (cutQ g st.1))
  clear hB hv
  obtain ⟨Z, hZ⟩ : ∃ Z, hasQ g st.1 = Z := ⟨_, rfl⟩
  rw [hZ] at C
  rw [hZ]
  clear hZ
  unfold tv at *
  generalize ByteArray.mk st.1.toArray = X at *
  generalize ByteArray.mk g.toArray = Y at *
  generalize hU : ByteArray.mk (cutQ g st.1).toArray = U at *
  go_enter Tryz.func54, Tryz.ntmps54
  go_wp2_with (go_at_call 63; (refine (C.out _).mono ?_); rintro e w1 ⟨rfl, k1⟩; have b1 := H.out.1.ext k1; have p0' := b1.cell 0; have q0' := b1.frozen 0; simp only [List.getElem?_toArray, List.getElem?_cons_zero] at p0'; have K1 := Lib.hid (And.intro k1 b1); clear k1 b1)
  go_ret
  refine ⟨rfl, ⟨ev, ?_, H.out.2⟩, ((Chg.of_ext K1.out.1).setCell 0 _)⟩
  have h3 := K1.out.2.set 0 (.string U)
  simp only [List.setIfInBounds_toArray, List.set_cons_zero] at h3
  unfold tv
  rw [hU]
  exact h3
set_option maxHeartbeats 1000000 in
theorem must_is (b : Nat) (st : St) (g : List UInt8) (hl : st.1.length ≤ 100000) (hg : g.length ≤ 100) (w0 w : World) (hG : G w0) (hE : Ext w0 w) (hb : w0.heap.size ≤ b) (h : Rdr w b st) :
    Calls Tryz.prog 36 #[.pointer (some ⟨b, 0, none⟩), tv g] w fun e w' => (∃ v, e = .returned v) ∧ Rdr w' b (mustQ g st) ∧ Chg b w w' := by
  have C := Lib.hid (has_is b st g hl hg w h)
  have hz := hG.sz
  have F := Lib.hid (fun (w1 : World) (h1 : Rdr w1 b (cutQ g st.1, st.2)) (k1 : Chg b w w1) => fail_is b _ w1 (hG.ext (Chg.below hE k1 hE.size hb)) (by omega) h1)
  cases hq : hasQ g st.1
  · rw [hq] at C
    have HM := Lib.hid (show mustQ g st = ([], true) by unfold mustQ; rw [hq]; rfl)
    clear hq h hG hE
    unfold tv at *
    generalize ByteArray.mk g.toArray = Y at *
    go_enter Tryz.func36, Tryz.ntmps36
    go_wp2_with (first | (go_at_call 54; (with_reducible refine C.out.mono ?_); rintro e w1 ⟨rfl, h1, k1⟩) | (go_at_call 37; (with_reducible refine (F.out _ h1 k1).mono ?_); rintro e w2 ⟨⟨v, rfl⟩, h2, k2⟩))
    go_end0
    exact ⟨⟨_, rfl⟩, by rw [HM.out]; exact h2, k1.trans k2⟩
  · rw [hq] at C
    have HM := Lib.hid (show mustQ g st = (cutQ g st.1, st.2) by unfold mustQ cutQ; rw [hq]; rfl)
    clear hq h hG hE
    unfold tv at *
    generalize ByteArray.mk g.toArray = Y at *
    go_enter Tryz.func36, Tryz.ntmps36
    go_wp2_with (go_at_call 54; (with_reducible refine C.out.mono ?_); rintro e w1 ⟨rfl, h1, k1⟩)
    go_end0
    exact ⟨⟨_, rfl⟩, by rw [HM.out]; exact h1, k1⟩
end
end Go.Proofs.YtgmpcinlkiiboaaGreatDoor
