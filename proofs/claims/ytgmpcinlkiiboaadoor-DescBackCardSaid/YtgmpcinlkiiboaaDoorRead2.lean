/- desc: its reader's small calls, in memory: fail, has, must. -/
import Derived.Test.YtgmpcinlkiiboaaDoorRead1
namespace Go.Proofs.YtgmpcinlkiiboaaDoor
open Go.RowKit Go
theorem Rdr.ext {w w' : World} {b : Nat} {st : St} (h : Rdr w b st) (k : Ext w w') : Rdr w' b st := by
  obtain ⟨ev, h1, h2⟩ := h
  exact ⟨ev, h1.ext k, h2⟩
theorem Rdr.lt {w : World} {b : Nat} {st : St} (h : Rdr w b st) : b < w.heap.size := by obtain ⟨ev, h1, _⟩ := h; exact h1.lt
section
set_option maxHeartbeats 1000000 in
theorem fail_is (b : Nat) (st : St) (w : World) (hG : G w) (hb : 8 ≤ b) (h : Rdr w b st) :
    Calls Tryd.prog 55 #[.pointer (some ⟨b, 0, none⟩)] w fun e w' => (∃ v, e = .returned v) ∧ Rdr w' b ([], true) ∧ Chg b w w' := by
  obtain ⟨ev, hB, _⟩ := h
  obtain ⟨te, pe, hc⟩ := hG.d2
  have p0 := hB.cell 0
  have p1 := hB.cell 1
  have q0 := hB.frozen 0
  have q1 := hB.frozen 1
  simp only [List.getElem?_toArray, List.getElem?_cons_zero, List.getElem?_cons_succ] at p0 p1
  have hne : 4 ≠ b := by omega
  have H := Lib.hid hB
  clear hB hG
  unfold tv at *
  generalize ByteArray.mk st.1.toArray = X at *
  go_enter Tryd.func55, Tryd.ntmps55
  go_wp2
  go_end0
  refine ⟨⟨_, rfl⟩, ⟨_, ?_, code_unless false 40 (by decide) te pe⟩, ((Chg.refl b w).setCell 0 _).setCell 1 _⟩
  have h3 := (H.out.set 0 (.string ⟨#[]⟩)).set 1 (.iface 73 (.agg #[.int .i64 40, .iface te pe]))
  simp only [List.setIfInBounds_toArray, List.set_cons_zero, List.set_cons_succ] at h3
  exact h3
set_option maxHeartbeats 1000000 in
theorem has_is (b : Nat) (st : St) (g : List UInt8) (hl : st.1.length ≤ 100000) (hg : g.length ≤ 100) (w : World) (h : Rdr w b st) :
    Calls Tryd.prog 67 #[.pointer (some ⟨b, 0, none⟩), tv g] w fun e w' => e = .returned (.bool (hasQ g st.1)) ∧ Rdr w' b (cutQ g st.1, st.2) ∧ Chg b w w' := by
  obtain ⟨ev, hB, hv⟩ := h
  have p0 := hB.cell 0
  have p1 := hB.cell 1
  have q0 := hB.frozen 0
  have q1 := hB.frozen 1
  simp only [List.getElem?_toArray, List.getElem?_cons_zero, List.getElem?_cons_succ] at p0 p1
  have C := Lib.hid (fun w => cutPrefix_is g st.1 (by omega) hl w)
  have H := Lib.hid (And.intro hB hv)
  have HS := Lib.hid (rfl : tv (cutQ g st.1) = tv (cutQ g st.1))
  clear hB hv
  obtain ⟨Z, hZ⟩ : ∃ Z, hasQ g st.1 = Z := ⟨_, rfl⟩
  rw [hZ] at C
  rw [hZ]
  clear hZ
  unfold tv at *
  generalize ByteArray.mk st.1.toArray = X at *
  generalize ByteArray.mk g.toArray = Y at *
  generalize hU : ByteArray.mk (cutQ g st.1).toArray = U at *
  go_enter Tryd.func67, Tryd.ntmps67
  go_wp2_with (go_at_call 75; (refine (C.out _).mono ?_); rintro e w1 ⟨rfl, k1⟩; have b1 := H.out.1.ext k1; have p0' := b1.cell 0; have q0' := b1.frozen 0; simp only [List.getElem?_toArray, List.getElem?_cons_zero] at p0'; have K1 := Lib.hid (And.intro k1 b1); clear k1 b1)
  go_ret
  refine ⟨rfl, ⟨ev, ?_, H.out.2⟩, ((Chg.of_ext K1.out.1).setCell 0 _)⟩
  have h3 := K1.out.2.set 0 (.string U)
  simp only [List.setIfInBounds_toArray, List.set_cons_zero] at h3
  unfold tv
  rw [hU]
  exact h3
set_option maxHeartbeats 1000000 in
theorem must_is (b : Nat) (st : St) (g : List UInt8) (hl : st.1.length ≤ 100000) (hg : g.length ≤ 100) (w0 w : World) (hG : G w0) (hE : Ext w0 w) (hb : w0.heap.size ≤ b) (h : Rdr w b st) :
    Calls Tryd.prog 54 #[.pointer (some ⟨b, 0, none⟩), tv g] w fun e w' => (∃ v, e = .returned v) ∧ Rdr w' b (mustQ g st) ∧ Chg b w w' := by
  have C := Lib.hid (has_is b st g hl hg w h)
  have hz := hG.sz
  have F := Lib.hid (fun (w1 : World) (h1 : Rdr w1 b (cutQ g st.1, st.2)) (k1 : Chg b w w1) => fail_is b _ w1 (hG.ext (Chg.below hE k1 hE.size hb)) (by omega) h1)
  cases hq : hasQ g st.1
  · rw [hq] at C
    have HM := Lib.hid (show mustQ g st = ([], true) by unfold mustQ; rw [hq]; rfl)
    clear hq h hG hE
    unfold tv at *
    generalize ByteArray.mk g.toArray = Y at *
    go_enter Tryd.func54, Tryd.ntmps54
    go_wp2_with (first | (go_at_call 67; (with_reducible refine C.out.mono ?_); rintro e w1 ⟨rfl, h1, k1⟩) | (go_at_call 55; (with_reducible refine (F.out _ h1 k1).mono ?_); rintro e w2 ⟨⟨v, rfl⟩, h2, k2⟩))
    go_end0
    exact ⟨⟨_, rfl⟩, by rw [HM.out]; exact h2, k1.trans k2⟩
  · rw [hq] at C
    have HM := Lib.hid (show mustQ g st = (cutQ g st.1, st.2) by unfold mustQ cutQ; rw [hq]; rfl)
    clear hq h hG hE
    unfold tv at *
    generalize ByteArray.mk g.toArray = Y at *
    go_enter Tryd.func54, Tryd.ntmps54
    go_wp2_with (go_at_call 67; (with_reducible refine C.out.mono ?_); rintro e w1 ⟨rfl, h1, k1⟩)
    go_end0
    exact ⟨⟨_, rfl⟩, by rw [HM.out]; exact h1, k1⟩
end
end Go.Proofs.YtgmpcinlkiiboaaDoor
