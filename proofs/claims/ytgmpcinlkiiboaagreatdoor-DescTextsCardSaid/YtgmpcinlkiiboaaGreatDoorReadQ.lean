/- desc: read. -/
import Derived.Test.YtgmpcinlkiiboaaGreatDoorPartQ
namespace Go.Proofs.YtgmpcinlkiiboaaGreatDoor
open Go.RowKit Go
theorem Rdr.other {w : World} {b : Nat} {st : St} (h : Rdr w b st) (p : Addr) (v : Value) (hne : b ≠ p.block) : Rdr (w.setCell p v) b st := by
  obtain ⟨ev, h1, h2⟩ := h
  exact ⟨ev, h1.other p v hne, h2⟩
structure Kp (w W : World) (d0 d1 d2 d3 : Value) (st : St) : Prop where
  res : Blk W w.heap.size #[.int .i64 0, .slice none 0 0, .int .i64 0, .slice none 0 0] 24
  dst : Blk W (w.heap.size + 1) #[d0, d1, d2, d3] 24
  rdr : Rdr W (w.heap.size + 1 + 1) st
  ext : Ext w W
theorem Kp.chg {w W W' : World} {d0 d1 d2 d3 : Value} {st st' : St} (k : Kp w W d0 d1 d2 d3 st) (c : Chg (w.heap.size + 1 + 1) W W') (r : Rdr W' (w.heap.size + 1 + 1) st') : Kp w W' d0 d1 d2 d3 st' :=
  ⟨k.res.chg c (by omega), k.dst.chg c (by omega), r, Chg.below k.ext c k.ext.size (by omega)⟩
theorem Kp.set01 {w W : World} {d0 d1 d2 d3 u v : Value} {st : St} (k : Kp w W d0 d1 d2 d3 st) : Kp w ((W.setCell ⟨w.heap.size + 1, 0, none⟩ u).setCell ⟨w.heap.size + 1, 1, none⟩ v) u v d2 d3 st := by
  have h := (k.dst.set 0 u).set 1 v
  simp only [List.setIfInBounds_toArray, List.set_cons_zero, List.set_cons_succ] at h
  exact ⟨(k.res.other _ _ (by show w.heap.size ≠ w.heap.size + 1; omega)).other _ _ (by show w.heap.size ≠ w.heap.size + 1; omega), h, (k.rdr.other _ _ (by show w.heap.size + 1 + 1 ≠ w.heap.size + 1; omega)).other _ _ (by show w.heap.size + 1 + 1 ≠ w.heap.size + 1; omega),
    (k.ext.setCell (p := ⟨w.heap.size + 1, 0, none⟩) (by show w.heap.size ≤ w.heap.size + 1; omega) _).setCell (p := ⟨w.heap.size + 1, 1, none⟩) (by show w.heap.size ≤ w.heap.size + 1; omega) _⟩
theorem Kp.set23 {w W : World} {d0 d1 d2 d3 u v : Value} {st : St} (k : Kp w W d0 d1 d2 d3 st) : Kp w ((W.setCell ⟨w.heap.size + 1, 2, none⟩ u).setCell ⟨w.heap.size + 1, 3, none⟩ v) d0 d1 u v st := by
  have h := (k.dst.set 2 u).set 3 v
  simp only [List.setIfInBounds_toArray, List.set_cons_zero, List.set_cons_succ] at h
  exact ⟨(k.res.other _ _ (by show w.heap.size ≠ w.heap.size + 1; omega)).other _ _ (by show w.heap.size ≠ w.heap.size + 1; omega), h, (k.rdr.other _ _ (by show w.heap.size + 1 + 1 ≠ w.heap.size + 1; omega)).other _ _ (by show w.heap.size + 1 + 1 ≠ w.heap.size + 1; omega),
    (k.ext.setCell (p := ⟨w.heap.size + 1, 2, none⟩) (by show w.heap.size ≤ w.heap.size + 1; omega) _).setCell (p := ⟨w.heap.size + 1, 3, none⟩) (by show w.heap.size ≤ w.heap.size + 1; omega) _⟩
theorem Il.chg {b : Nat} {w w' : World} {A : Option Addr} {n : Nat} {l : List Int} (h : Il w A n l) (k : Chg b w w') (hne : ∀ ad, A = some ad → ad.block ≠ b) : Il w' A n l :=
  ⟨h.1, h.2.keep k.size (fun ad e hb => k.block _ hb (hne ad e))⟩
theorem Il.other {w : World} {A : Option Addr} {n : Nat} {l : List Int} (h : Il w A n l) (p : Addr) (v : Value) (hne : ∀ ad, A = some ad → ad.block ≠ p.block) : Il (w.setCell p v) A n l :=
  ⟨h.1, h.2.keep (by simp) (fun ad e hb => Below.heap_setCell _ _ _ _ (hne ad e))⟩
theorem res_store4D {w w2 : World} {R : Nat} {x0 x1 x2 x3 u0 u1 u2 u3 : Value} {t : TypeId} (hB : Blk w2 R #[x0, x1, x2, x3] t) (hE : Ext w w2) (hR : w.heap.size ≤ R) :
    let W := (((w2.setCell ⟨R, 0, none⟩ u0).setCell ⟨R, 1, none⟩ u1).setCell ⟨R, 2, none⟩ u2).setCell ⟨R, 3, none⟩ u3
    W.cell? ⟨R, 0, none⟩ = some u0 ∧ W.cell? ⟨R, 1, none⟩ = some u1 ∧ W.cell? ⟨R, 2, none⟩ = some u2 ∧ W.cell? ⟨R, 3, none⟩ = some u3 ∧ Ext w W := by
  have h3 := (((hB.set 0 u0).set 1 u1).set 2 u2).set 3 u3
  simp only [List.setIfInBounds_toArray, List.set_cons_zero, List.set_cons_succ] at h3
  obtain ⟨⟨a0, a1, a2, a3⟩, _⟩ := cells4 h3
  exact ⟨a0, a1, a2, a3, (((hE.setCell (p := ⟨R, 0, none⟩) hR _).setCell (p := ⟨R, 1, none⟩) hR _).setCell (p := ⟨R, 2, none⟩) hR _).setCell (p := ⟨R, 3, none⟩) hR _⟩
/-- What read answers. -/
def ReadR (w : World) (s : List UInt8) (e : Ending) (w' : World) : Prop :=
  ∃ A c B c' ev, e = .returned (.tuple #[.agg #[.int .i64 ((readQ1 s).1 : Nat), .slice A (readQ1 s).2.1.length c, .int .i64 ((readQ2 s).1 : Nat), .slice B (readQ2 s).2.1.length c'], ev]) ∧
    (readQ1 s).2.1.length ≤ c ∧ (readQ2 s).2.1.length ≤ c' ∧ c ≤ maxLen ∧ c' ≤ maxLen ∧ Il w' A (readQ1 s).2.1.length ((readQ1 s).2.1.map Int.ofNat) ∧ Il w' B (readQ2 s).2.1.length ((readQ2 s).2.1.map Int.ofNat) ∧
    Code ev (codeI (!readF s) 40) ∧ Ext w w' ∧ (∀ ad, A = some ad → w.heap.size + 3 ≤ ad.block) ∧ (∀ ad, B = some ad → w.heap.size + 3 ≤ ad.block)
section
set_option maxHeartbeats 4000000 in
theorem read_is (s : List UInt8) (hl : s.length ≤ 100000) (w : World) (hG : G w) :
    Calls Tryz.prog 21 #[tv s] w (ReadR w s) := by
  have hsz := hG.sz
  have P := Lib.hid (fun (W : World) (st : St) (hst : st.1.length ≤ 100000) (hE : Ext w W) (h : Rdr W (w.heap.size + 1 + 1) st) => dpart_is (w.heap.size + 1 + 1) st hst w W hG hE (by omega) h)
  have M := Lib.hid (fun (W : World) (st : St) (hst : st.1.length ≤ 100000) (hE : Ext w W) (h : Rdr W (w.heap.size + 1 + 1) st) => must_is (w.heap.size + 1 + 1) st [59, 32] hst (by decide) w W hG hE (by omega) h)
  have F := Lib.hid (fun (W : World) (st : St) (hE : Ext w W) (h : Rdr W (w.heap.size + 1 + 1) st) => fail_is (w.heap.size + 1 + 1) st W (hG.ext hE) (by omega) h)
  have q1 : partQ (s, false) = readQ1 s := rfl
  have q2 : partQ (mustQ [59, 32] (readQ1 s).2.2) = readQ2 s := rfl
  have l1 := part_len (s, false)
  rw [q1] at l1
  have l2 := must_len [59, 32] (readQ1 s).2.2
  have l3 := part_len (mustQ [59, 32] (readQ1 s).2.2)
  rw [q2] at l3
  have hF : readF s = ((readQ2 s).2.2.2 || !(readQ2 s).2.2.1.isEmpty) := rfl
  have HQ := Lib.hid (And.intro q1 (And.intro q2 (And.intro l1 (And.intro l2 (And.intro l3 (And.intro hF (And.intro hG hl)))))))
  have K0 : Kp w (((w.alloc (.cells #[.int .i64 0, .slice none 0 0, .int .i64 0, .slice none 0 0] 24)).alloc (.cells #[.int .i64 0, .slice none 0 0, .int .i64 0, .slice none 0 0] 24)).alloc (.cells #[tv s, .nilIface] 76))
      (.int .i64 0) (.slice none 0 0) (.int .i64 0) (.slice none 0 0) (s, false) := by
    refine ⟨(Blk.new w _ _).ext (ext2 _ _ _), ?_, ⟨.nilIface, ?_, .inl ⟨rfl, rfl⟩⟩, ext3 _ _ _ _⟩
    · have := (Blk.new (w.alloc (.cells #[.int .i64 0, .slice none 0 0, .int .i64 0, .slice none 0 0] 24)) #[.int .i64 0, .slice none 0 0, .int .i64 0, .slice none 0 0] 24).ext (ext1 _ (.cells #[tv s, .nilIface] 76))
      rwa [World.size_alloc] at this
    · have := Blk.new ((w.alloc (.cells #[.int .i64 0, .slice none 0 0, .int .i64 0, .slice none 0 0] 24)).alloc (.cells #[.int .i64 0, .slice none 0 0, .int .i64 0, .slice none 0 0] 24)) #[tv s, .nilIface] 76
      rwa [World.size_alloc, World.size_alloc] at this
  have HK0 := Lib.hid K0
  clear K0 q1 q2 l1 l2 l3 hF hG
  obtain ⟨X3, hX3⟩ : ∃ X, ByteArray.mk (readQ2 s).2.2.1.toArray = X := ⟨_, rfl⟩
  have HX3 := Lib.hid hX3
  clear hX3
  go_enter Tryz.func21, Tryz.ntmps21
  have hXe : X3.toList = (readQ2 s).2.2.1 := by rw [← HX3.out, bx_list]
  cases hemp : X3.toList.isEmpty
  · have HC := Lib.hid (show readF s = true by rw [HQ.out.2.2.2.2.2.1, ← hXe, hemp]; simp)
    clear hXe
    go_wp2_with (first | (go_at_call 35; (with_reducible refine (P.out _ (s, false) HQ.out.2.2.2.2.2.2.2 HK0.out.ext HK0.out.rdr).mono ?_); rintro e w1 ⟨A, c, he, a1, a2, a3, a4, a5, a6⟩; rw [HQ.out.1] at he a1 a4 a5; subst he; have K1 := HK0.out.chg a6 a5; obtain ⟨⟨p0, p1, p2, p3⟩, f0, f1, f2, f3⟩ := cells4 K1.dst; have HK1 := Lib.hid (And.intro (K1.set01 (u := .int .i64 ((readQ1 s).1 : Nat)) (v := .slice A (readQ1 s).2.1.length c)) (And.intro a1 (And.intro a2 (And.intro a3 (And.intro a4 a6))))); clear a1 a2 a3 a4 a5 a6 K1) | (go_at_call 36; (with_reducible refine (M.out _ (readQ1 s).2.2 (Nat.le_trans HQ.out.2.2.1.2.2 HQ.out.2.2.2.2.2.2.2) HK1.out.1.ext HK1.out.1.rdr).mono ?_); rintro e w2 ⟨⟨v, rfl⟩, h2, k2⟩; have HK2 := Lib.hid (And.intro (HK1.out.1.chg k2 h2) k2); clear h2 k2) | (go_at_call 35; (with_reducible refine (P.out _ (mustQ [59, 32] (readQ1 s).2.2) (Nat.le_trans HQ.out.2.2.2.1 (Nat.le_trans HQ.out.2.2.1.2.2 HQ.out.2.2.2.2.2.2.2)) HK2.out.1.ext HK2.out.1.rdr).mono ?_); rintro e w3 ⟨B, c', he, a1, a2, a3, a4, a5, a6⟩; rw [HQ.out.2.1] at he a1 a4 a5; subst he; have K3 := HK2.out.1.chg a6 a5; obtain ⟨ev, hB, hv⟩ := a5; have r0 : w3.cell? ⟨w.heap.size + 1 + 1, 0, none⟩ = some (.string X3) := (by rw [← HX3.out, hB.cell]; rfl); have r1 : w3.cell? ⟨w.heap.size + 1 + 1, 1, none⟩ = some ev := (by rw [hB.cell]; rfl); obtain ⟨⟨p0, p1, p2, p3⟩, f0, f1, f2, f3⟩ := cells4 K3.dst; have HK3 := Lib.hid (And.intro (K3.set23 (u := .int .i64 ((readQ2 s).1 : Nat)) (v := .slice B (readQ2 s).2.1.length c')) (And.intro a1 (And.intro a2 (And.intro a3 (And.intro a4 (And.intro a6 hv)))))); clear a1 a2 a3 a4 a6 hB hv K3))
    go_wp2_with (go_at_call 37; (with_reducible refine (F.out _ _ HK3.out.1.ext HK3.out.1.rdr).mono ?_); rintro e w4 ⟨⟨v4, rfl⟩, h4, k4⟩; have HK4 := Lib.hid (And.intro (HK3.out.1.chg k4 h4) k4); clear h4 k4 r0 r1)
    clear p0 p1 p2 p3 f0 f1 f2 f3
    have nA : ∀ ad, A = some ad → w.heap.size + 3 ≤ ad.block := fun ad e => by have := HK1.out.2.2.2.1 ad e; simpa using this
    have nB : ∀ ad, B = some ad → w.heap.size + 3 ≤ ad.block := fun ad e => by have := HK3.out.2.2.2.1 ad e; have h2 := HK2.out.2.size; have h1 := HK1.out.2.2.2.2.2.size; simp at h1 h2; omega
    have iA := (((((HK1.out.2.2.2.2.1.other ⟨w.heap.size + 1, 0, none⟩ (.int .i64 ((readQ1 s).1 : Nat)) (fun ad e => by have := nA ad e; show ad.block ≠ w.heap.size + 1; omega)).other ⟨w.heap.size + 1, 1, none⟩ (.slice A (readQ1 s).2.1.length c) (fun ad e => by have := nA ad e; show ad.block ≠ w.heap.size + 1; omega)).chg HK2.out.2 (fun ad e => by have := nA ad e; omega)).chg HK3.out.2.2.2.2.2.1 (fun ad e => by have := nA ad e; omega)).other ⟨w.heap.size + 1, 2, none⟩ (.int .i64 ((readQ2 s).1 : Nat)) (fun ad e => by have := nA ad e; show ad.block ≠ w.heap.size + 1; omega)).other ⟨w.heap.size + 1, 3, none⟩ (.slice B (readQ2 s).2.1.length c') (fun ad e => by have := nA ad e; show ad.block ≠ w.heap.size + 1; omega)
    have iB := (HK3.out.2.2.2.2.1.other ⟨w.heap.size + 1, 2, none⟩ (.int .i64 ((readQ2 s).1 : Nat)) (fun ad e => by have := nB ad e; show ad.block ≠ w.heap.size + 1; omega)).other ⟨w.heap.size + 1, 3, none⟩ (.slice B (readQ2 s).2.1.length c') (fun ad e => by have := nB ad e; show ad.block ≠ w.heap.size + 1; omega)
    have KF := HK4.out.1
    replace iA := iA.chg HK4.out.2 (fun ad e => by have := nA ad e; omega)
    replace iB := iB.chg HK4.out.2 (fun ad e => by have := nB ad e; omega)
    clear HK4
    generalize hWf : w4 = Wf at *
    clear hWf
    obtain ⟨evr, hBr, hvr⟩ := KF.rdr
    have x1 : Wf.cell? ⟨w.heap.size + 1 + 1, 1, none⟩ = some evr := by rw [hBr.cell]; rfl
    obtain ⟨⟨p0, p1, p2, p3⟩, f0, f1, f2, f3⟩ := cells4 KF.dst
    obtain ⟨⟨g0, g1, g2, g3⟩, h0, h1, h2, h3⟩ := cells4 KF.res
    have HF := Lib.hid (And.intro KF.res (And.intro KF.ext (And.intro hvr (And.intro iA iB))))
    clear KF hBr hvr iA iB
    go_region
    go_wp2
    obtain ⟨s0, s1, s2, s3, hE⟩ := res_store4D (u0 := .int .i64 ((readQ1 s).1 : Nat)) (u1 := .slice A (readQ1 s).2.1.length c) (u2 := .int .i64 ((readQ2 s).1 : Nat)) (u3 := .slice B (readQ2 s).2.1.length c') HF.out.1 HF.out.2.1 (Nat.le_refl _)
    refine bodyPost_ret (v := .tuple #[.agg #[.int .i64 ((readQ1 s).1 : Nat), .slice A (readQ1 s).2.1.length c, .int .i64 ((readQ2 s).1 : Nat), .slice B (readQ2 s).2.1.length c'], evr]) (by simp [results, Tryz.results21, go_sem, s0, s1, s2, s3]) rfl ?_
    refine ⟨A, c, B, c', evr, rfl, HK1.out.2.1, HK3.out.2.1, HK1.out.2.2.1, HK3.out.2.2.1, ?_, ?_, ?_, hE.drew, nA, nB⟩
    · have i := HF.out.2.2.2.1
      have n := nA
      exact Il.ext ((((i.other _ _ (fun ad e => by have := n ad e; show ad.block ≠ w.heap.size; omega)).other _ _ (fun ad e => by have := n ad e; show ad.block ≠ w.heap.size; omega)).other _ _ (fun ad e => by have := n ad e; show ad.block ≠ w.heap.size; omega)).other _ _ (fun ad e => by have := n ad e; show ad.block ≠ w.heap.size; omega)) (Ext.refl _).drew
    · have i := HF.out.2.2.2.2
      have n := nB
      exact Il.ext ((((i.other _ _ (fun ad e => by have := n ad e; show ad.block ≠ w.heap.size; omega)).other _ _ (fun ad e => by have := n ad e; show ad.block ≠ w.heap.size; omega)).other _ _ (fun ad e => by have := n ad e; show ad.block ≠ w.heap.size; omega)).other _ _ (fun ad e => by have := n ad e; show ad.block ≠ w.heap.size; omega)) (Ext.refl _).drew
    · rw [HC.out]; exact HF.out.2.2.1
  · have HC := Lib.hid (show readF s = (readQ2 s).2.2.2 by rw [HQ.out.2.2.2.2.2.1, ← hXe, hemp]; simp)
    clear hXe
    go_wp2_with (first | (go_at_call 35; (with_reducible refine (P.out _ (s, false) HQ.out.2.2.2.2.2.2.2 HK0.out.ext HK0.out.rdr).mono ?_); rintro e w1 ⟨A, c, he, a1, a2, a3, a4, a5, a6⟩; rw [HQ.out.1] at he a1 a4 a5; subst he; have K1 := HK0.out.chg a6 a5; obtain ⟨⟨p0, p1, p2, p3⟩, f0, f1, f2, f3⟩ := cells4 K1.dst; have HK1 := Lib.hid (And.intro (K1.set01 (u := .int .i64 ((readQ1 s).1 : Nat)) (v := .slice A (readQ1 s).2.1.length c)) (And.intro a1 (And.intro a2 (And.intro a3 (And.intro a4 a6))))); clear a1 a2 a3 a4 a5 a6 K1) | (go_at_call 36; (with_reducible refine (M.out _ (readQ1 s).2.2 (Nat.le_trans HQ.out.2.2.1.2.2 HQ.out.2.2.2.2.2.2.2) HK1.out.1.ext HK1.out.1.rdr).mono ?_); rintro e w2 ⟨⟨v, rfl⟩, h2, k2⟩; have HK2 := Lib.hid (And.intro (HK1.out.1.chg k2 h2) k2); clear h2 k2) | (go_at_call 35; (with_reducible refine (P.out _ (mustQ [59, 32] (readQ1 s).2.2) (Nat.le_trans HQ.out.2.2.2.1 (Nat.le_trans HQ.out.2.2.1.2.2 HQ.out.2.2.2.2.2.2.2)) HK2.out.1.ext HK2.out.1.rdr).mono ?_); rintro e w3 ⟨B, c', he, a1, a2, a3, a4, a5, a6⟩; rw [HQ.out.2.1] at he a1 a4 a5; subst he; have K3 := HK2.out.1.chg a6 a5; obtain ⟨ev, hB, hv⟩ := a5; have r0 : w3.cell? ⟨w.heap.size + 1 + 1, 0, none⟩ = some (.string X3) := (by rw [← HX3.out, hB.cell]; rfl); have r1 : w3.cell? ⟨w.heap.size + 1 + 1, 1, none⟩ = some ev := (by rw [hB.cell]; rfl); obtain ⟨⟨p0, p1, p2, p3⟩, f0, f1, f2, f3⟩ := cells4 K3.dst; have HK3 := Lib.hid (And.intro (K3.set23 (u := .int .i64 ((readQ2 s).1 : Nat)) (v := .slice B (readQ2 s).2.1.length c')) (And.intro a1 (And.intro a2 (And.intro a3 (And.intro a4 (And.intro a6 hv)))))); clear a1 a2 a3 a4 a6 hB hv K3))
    clear p0 p1 p2 p3 f0 f1 f2 f3 r0 r1
    have nA : ∀ ad, A = some ad → w.heap.size + 3 ≤ ad.block := fun ad e => by have := HK1.out.2.2.2.1 ad e; simpa using this
    have nB : ∀ ad, B = some ad → w.heap.size + 3 ≤ ad.block := fun ad e => by have := HK3.out.2.2.2.1 ad e; have h2 := HK2.out.2.size; have h1 := HK1.out.2.2.2.2.2.size; simp at h1 h2; omega
    have iA := (((((HK1.out.2.2.2.2.1.other ⟨w.heap.size + 1, 0, none⟩ (.int .i64 ((readQ1 s).1 : Nat)) (fun ad e => by have := nA ad e; show ad.block ≠ w.heap.size + 1; omega)).other ⟨w.heap.size + 1, 1, none⟩ (.slice A (readQ1 s).2.1.length c) (fun ad e => by have := nA ad e; show ad.block ≠ w.heap.size + 1; omega)).chg HK2.out.2 (fun ad e => by have := nA ad e; omega)).chg HK3.out.2.2.2.2.2.1 (fun ad e => by have := nA ad e; omega)).other ⟨w.heap.size + 1, 2, none⟩ (.int .i64 ((readQ2 s).1 : Nat)) (fun ad e => by have := nA ad e; show ad.block ≠ w.heap.size + 1; omega)).other ⟨w.heap.size + 1, 3, none⟩ (.slice B (readQ2 s).2.1.length c') (fun ad e => by have := nA ad e; show ad.block ≠ w.heap.size + 1; omega)
    have iB := (HK3.out.2.2.2.2.1.other ⟨w.heap.size + 1, 2, none⟩ (.int .i64 ((readQ2 s).1 : Nat)) (fun ad e => by have := nB ad e; show ad.block ≠ w.heap.size + 1; omega)).other ⟨w.heap.size + 1, 3, none⟩ (.slice B (readQ2 s).2.1.length c') (fun ad e => by have := nB ad e; show ad.block ≠ w.heap.size + 1; omega)
    have KF := HK3.out.1
    generalize (w3.setCell ⟨w.heap.size + 1, 2, none⟩ (.int .i64 ((readQ2 s).1 : Nat))).setCell ⟨w.heap.size + 1, 3, none⟩ (.slice B (readQ2 s).2.1.length c') = Wf at *
    obtain ⟨evr, hBr, hvr⟩ := KF.rdr
    have x1 : Wf.cell? ⟨w.heap.size + 1 + 1, 1, none⟩ = some evr := by rw [hBr.cell]; rfl
    obtain ⟨⟨p0, p1, p2, p3⟩, f0, f1, f2, f3⟩ := cells4 KF.dst
    obtain ⟨⟨g0, g1, g2, g3⟩, h0, h1, h2, h3⟩ := cells4 KF.res
    have HF := Lib.hid (And.intro KF.res (And.intro KF.ext (And.intro hvr (And.intro iA iB))))
    clear KF hBr hvr iA iB
    go_region
    go_wp2
    obtain ⟨s0, s1, s2, s3, hE⟩ := res_store4D (u0 := .int .i64 ((readQ1 s).1 : Nat)) (u1 := .slice A (readQ1 s).2.1.length c) (u2 := .int .i64 ((readQ2 s).1 : Nat)) (u3 := .slice B (readQ2 s).2.1.length c') HF.out.1 HF.out.2.1 (Nat.le_refl _)
    refine bodyPost_ret (v := .tuple #[.agg #[.int .i64 ((readQ1 s).1 : Nat), .slice A (readQ1 s).2.1.length c, .int .i64 ((readQ2 s).1 : Nat), .slice B (readQ2 s).2.1.length c'], evr]) (by simp [results, Tryz.results21, go_sem, s0, s1, s2, s3]) rfl ?_
    refine ⟨A, c, B, c', evr, rfl, HK1.out.2.1, HK3.out.2.1, HK1.out.2.2.1, HK3.out.2.2.1, ?_, ?_, ?_, hE.drew, nA, nB⟩
    · have i := HF.out.2.2.2.1
      have n := nA
      exact Il.ext ((((i.other _ _ (fun ad e => by have := n ad e; show ad.block ≠ w.heap.size; omega)).other _ _ (fun ad e => by have := n ad e; show ad.block ≠ w.heap.size; omega)).other _ _ (fun ad e => by have := n ad e; show ad.block ≠ w.heap.size; omega)).other _ _ (fun ad e => by have := n ad e; show ad.block ≠ w.heap.size; omega)) (Ext.refl _).drew
    · have i := HF.out.2.2.2.2
      have n := nB
      exact Il.ext ((((i.other _ _ (fun ad e => by have := n ad e; show ad.block ≠ w.heap.size; omega)).other _ _ (fun ad e => by have := n ad e; show ad.block ≠ w.heap.size; omega)).other _ _ (fun ad e => by have := n ad e; show ad.block ≠ w.heap.size; omega)).other _ _ (fun ad e => by have := n ad e; show ad.block ≠ w.heap.size; omega)) (Ext.refl _).drew
    · rw [HC.out]; exact HF.out.2.2.1
end
end Go.Proofs.YtgmpcinlkiiboaaGreatDoor
