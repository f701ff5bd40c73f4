/- Joined texts, in their order: ReadQ, ParseD, Build. -/
import Derived.Test.YtopgbggighaknaaGreatDoorM08
import Derived.Test.YtopgbggighaknaaGreatDoorM07
import Derived.Test.YtopgbggighaknaaGreatDoorShelf
import Derived.Test.YtopgbggighaknaaGreatDoorChecked
import Derived.WalkKit
import Derived.WalkSpells
import Derived.WalkLawsBesides
/- desc: read. -/
namespace Go.Proofs.YtopgbggighaknaaGreatDoor
open Go.RowKit Go
theorem Rdr.other {w : World} {b : Nat} {st : St} (h : Rdr w b st) (p : Addr) (v : Value) (hne : b ≠ p.block) : Rdr (w.setCell p v) b st := by
  obtain ⟨ev, h1, h2⟩ := h
  exact ⟨ev, h1.other p v hne, h2⟩
structure Kp (w W : World) (d0 d1 d2 d3 : Value) (st : St) : Prop where
  res : Blk W w.heap.size #[.int .i64 0, .slice none 0 0, .int .i64 0, .slice none 0 0] 25
  dst : Blk W (w.heap.size + 1) #[d0, d1, d2, d3] 25
  rdr : Rdr W (w.heap.size + 1 + 1) st
  ext : Ext w W
theorem Kp.chg {w W W' : World} {d0 d1 d2 d3 : Value} {st st' : St} (k : Kp w W d0 d1 d2 d3 st) (c : Chg (w.heap.size + 1 + 1) W W') (r : Rdr W' (w.heap.size + 1 + 1) st') : Kp w W' d0 d1 d2 d3 st' :=
  ⟨k.res.chg c (by omega), k.dst.chg c (by omega), r, Chg.below k.ext c k.ext.size (by omega)⟩
theorem Kp.set01 {w W : World} {d0 d1 d2 d3 u v : Value} {st : St} (k : Kp w W d0 d1 d2 d3 st) : Kp w ((W.setCell ⟨w.heap.size + 1, 0, none⟩ u).setCell ⟨w.heap.size + 1, 1, none⟩ v) u v d2 d3 st := by
  have h := (k.dst.set 0 u).set 1 v
  simp only [List.setIfInBounds_toArray, List.set_cons_zero, List.set_cons_succ] at h
  exact ⟨(k.res.other _ _ (by show w.heap.size ≠ w.heap.size + 1; omega)).other _ _ (by show w.heap.size ≠ w.heap.size + 1; omega), h, (k.rdr.other _ _ (by show w.heap.size + 1 + 1 ≠ w.heap.size + 1; omega)).other _ _ (by show w.heap.size + 1 + 1 ≠ w.heap.size + 1; omega),
    (k.ext.setCell (p := ⟨w.heap.size + 1, 0, none⟩) (by show w.heap.size ≤ w.heap.size + 1; omega) _).setCell (p := ⟨w.heap.size + 1, 1, none⟩) (by show w.heap.size ≤ w.heap.size + 1; omega) _⟩
theorem Kp.set23 {w W : World} {d0 d1 d2 d3 u v : Value} {st : St} (k : Kp w W d0 d1 d2 d3 st) : Kp w ((W.setCell ⟨w.heap.size + 1, 2, none⟩ u).setCell ⟨w.heap.size + 1, 3, none⟩ v) d0 d1 u v st := by
  have h := (k.dst.set 2 u).set 3 v
  simp only [List.setIfInBounds_toArray, List.set_cons_zero, List.set_cons_succ] at h
  exact ⟨(k.res.other _ _ (by show w.heap.size ≠ w.heap.size + 1; omega)).other _ _ (by show w.heap.size ≠ w.heap.size + 1; omega), h, (k.rdr.other _ _ (by show w.heap.size + 1 + 1 ≠ w.heap.size + 1; omega)).other _ _ (by show w.heap.size + 1 + 1 ≠ w.heap.size + 1; omega),
    (k.ext.setCell (p := ⟨w.heap.size + 1, 2, none⟩) (by show w.heap.size ≤ w.heap.size + 1; omega) _).setCell (p := ⟨w.heap.size + 1, 3, none⟩) (by show w.heap.size ≤ w.heap.size + 1; omega) _⟩
theorem Il.chg {b : Nat} {w w' : World} {A : Option Addr} {n : Nat} {l : List Int} (h : Il w A n l) (k : Chg b w w') (hne : ∀ ad, A = some ad → ad.block ≠ b) : Il w' A n l :=
  ⟨h.1, h.2.keep k.size (fun ad e hb => k.block _ hb (hne ad e))⟩
theorem Il.other {w : World} {A : Option Addr} {n : Nat} {l : List Int} (h : Il w A n l) (p : Addr) (v : Value) (hne : ∀ ad, A = some ad → ad.block ≠ p.block) : Il (w.setCell p v) A n l :=
  ⟨h.1, h.2.keep (by simp) (fun ad e hb => Below.heap_setCell _ _ _ _ (hne ad e))⟩
theorem res_store4D {w w2 : World} {R : Nat} {x0 x1 x2 x3 u0 u1 u2 u3 : Value} {t : TypeId} (hB : Blk w2 R #[x0, x1, x2, x3] t) (hE : Ext w w2) (hR : w.heap.size ≤ R) :
    let W := (((w2.setCell ⟨R, 0, none⟩ u0).setCell ⟨R, 1, none⟩ u1).setCell ⟨R, 2, none⟩ u2).setCell ⟨R, 3, none⟩ u3
    W.cell? ⟨R, 0, none⟩ = some u0 ∧ W.cell? ⟨R, 1, none⟩ = some u1 ∧ W.cell? ⟨R, 2, none⟩ = some u2 ∧ W.cell? ⟨R, 3, none⟩ = some u3 ∧ Ext w W := by
  have h3 := (((hB.set 0 u0).set 1 u1).set 2 u2).set 3 u3
  simp only [List.setIfInBounds_toArray, List.set_cons_zero, List.set_cons_succ] at h3
  obtain ⟨⟨a0, a1, a2, a3⟩, _⟩ := cells4 h3
  exact ⟨a0, a1, a2, a3, (((hE.setCell (p := ⟨R, 0, none⟩) hR _).setCell (p := ⟨R, 1, none⟩) hR _).setCell (p := ⟨R, 2, none⟩) hR _).setCell (p := ⟨R, 3, none⟩) hR _⟩
/-- What read answers. -/
def ReadR (w : World) (s : List UInt8) (e : Ending) (w' : World) : Prop :=
  ∃ A c B c' ev, e = .returned (.tuple #[.agg #[.int .i64 ((readQ1 s).1 : Nat), .slice A (readQ1 s).2.1.length c, .int .i64 ((readQ2 s).1 : Nat), .slice B (readQ2 s).2.1.length c'], ev]) ∧
    (readQ1 s).2.1.length ≤ c ∧ (readQ2 s).2.1.length ≤ c' ∧ c ≤ maxLen ∧ c' ≤ maxLen ∧ Il w' A (readQ1 s).2.1.length ((readQ1 s).2.1.map Int.ofNat) ∧ Il w' B (readQ2 s).2.1.length ((readQ2 s).2.1.map Int.ofNat) ∧
    Code ev (codeI (!readF s) 40) ∧ Ext w w' ∧ (∀ ad, A = some ad → w.heap.size + 3 ≤ ad.block) ∧ (∀ ad, B = some ad → w.heap.size + 3 ≤ ad.block)
section
set_option maxHeartbeats 4000000 in
theorem read_is (s : List UInt8) (hl : s.length ≤ 100000) (w : World) (hG : G w) :
    Calls Tryz.prog 81 #[tv s] w (ReadR w s) := by
  have hsz := hG.sz
  have P := Lib.hid (fun (W : World) (st : St) (hst : st.1.length ≤ 100000) (hE : Ext w W) (h : Rdr W (w.heap.size + 1 + 1) st) => dpart_is (w.heap.size + 1 + 1) st hst w W hG hE (by omega) h)
  have M := Lib.hid (fun (W : World) (st : St) (hst : st.1.length ≤ 100000) (hE : Ext w W) (h : Rdr W (w.heap.size + 1 + 1) st) => must_is (w.heap.size + 1 + 1) st [59, 32] hst (by decide) w W hG hE (by omega) h)
  have F := Lib.hid (fun (W : World) (st : St) (hE : Ext w W) (h : Rdr W (w.heap.size + 1 + 1) st) => fail_is (w.heap.size + 1 + 1) st W (hG.ext hE) (by omega) h)
  have q1 : partQ (s, false) = readQ1 s := rfl
  have q2 : partQ (mustQ [59, 32] (readQ1 s).2.2) = readQ2 s := rfl
  have l1 := part_len (s, false)
  rw [q1] at l1
  have l2 := must_len [59, 32] (readQ1 s).2.2
  have l3 := part_len (mustQ [59, 32] (readQ1 s).2.2)
  rw [q2] at l3
  have hF : readF s = ((readQ2 s).2.2.2 || !(readQ2 s).2.2.1.isEmpty) := rfl
  have HQ := Lib.hid (And.intro q1 (And.intro q2 (And.intro l1 (And.intro l2 (And.intro l3 (And.intro hF (And.intro hG hl)))))))
  have K0 : Kp w (((w.alloc (.cells #[.int .i64 0, .slice none 0 0, .int .i64 0, .slice none 0 0] 25)).alloc (.cells #[.int .i64 0, .slice none 0 0, .int .i64 0, .slice none 0 0] 25)).alloc (.cells #[tv s, .nilIface] 137))
      (.int .i64 0) (.slice none 0 0) (.int .i64 0) (.slice none 0 0) (s, false) := by
    refine ⟨(Blk.new w _ _).ext (ext2 _ _ _), ?_, ⟨.nilIface, ?_, .inl ⟨rfl, rfl⟩⟩, ext3 _ _ _ _⟩
    · have := (Blk.new (w.alloc (.cells #[.int .i64 0, .slice none 0 0, .int .i64 0, .slice none 0 0] 25)) #[.int .i64 0, .slice none 0 0, .int .i64 0, .slice none 0 0] 25).ext (ext1 _ (.cells #[tv s, .nilIface] 137))
      rwa [World.size_alloc] at this
    · have := Blk.new ((w.alloc (.cells #[.int .i64 0, .slice none 0 0, .int .i64 0, .slice none 0 0] 25)).alloc (.cells #[.int .i64 0, .slice none 0 0, .int .i64 0, .slice none 0 0] 25)) #[tv s, .nilIface] 137
      rwa [World.size_alloc, World.size_alloc] at this
  have HK0 := Lib.hid K0
  clear K0 q1 q2 l1 l2 l3 hF hG
  obtain ⟨X3, hX3⟩ : ∃ X, ByteArray.mk (readQ2 s).2.2.1.toArray = X := ⟨_, rfl⟩
  have HX3 := Lib.hid hX3
  clear hX3
  go_enter Tryz.func81, Tryz.ntmps81
  have hXe : X3.toList = (readQ2 s).2.2.1 := by rw [← HX3.out, bx_list]
  cases hemp : X3.toList.isEmpty
  · have HC := Lib.hid (show readF s = true by rw [HQ.out.2.2.2.2.2.1, ← hXe, hemp]; simp)
    clear hXe
    go_wp2_with (first | (go_at_call 85; (with_reducible refine (P.out _ (s, false) HQ.out.2.2.2.2.2.2.2 HK0.out.ext HK0.out.rdr).mono ?_); rintro e w1 ⟨A, c, he, a1, a2, a3, a4, a5, a6⟩; rw [HQ.out.1] at he a1 a4 a5; subst he; have K1 := HK0.out.chg a6 a5; obtain ⟨⟨p0, p1, p2, p3⟩, f0, f1, f2, f3⟩ := cells4 K1.dst; have HK1 := Lib.hid (And.intro (K1.set01 (u := .int .i64 ((readQ1 s).1 : Nat)) (v := .slice A (readQ1 s).2.1.length c)) (And.intro a1 (And.intro a2 (And.intro a3 (And.intro a4 a6))))); clear a1 a2 a3 a4 a5 a6 K1) | (go_at_call 86; (with_reducible refine (M.out _ (readQ1 s).2.2 (Nat.le_trans HQ.out.2.2.1.2.2 HQ.out.2.2.2.2.2.2.2) HK1.out.1.ext HK1.out.1.rdr).mono ?_); rintro e w2 ⟨⟨v, rfl⟩, h2, k2⟩; have HK2 := Lib.hid (And.intro (HK1.out.1.chg k2 h2) k2); clear h2 k2) | (go_at_call 85; (with_reducible refine (P.out _ (mustQ [59, 32] (readQ1 s).2.2) (Nat.le_trans HQ.out.2.2.2.1 (Nat.le_trans HQ.out.2.2.1.2.2 HQ.out.2.2.2.2.2.2.2)) HK2.out.1.ext HK2.out.1.rdr).mono ?_); rintro e w3 ⟨B, c', he, a1, a2, a3, a4, a5, a6⟩; rw [HQ.out.2.1] at he a1 a4 a5; subst he; have K3 := HK2.out.1.chg a6 a5; obtain ⟨ev, hB, hv⟩ := a5; have r0 : w3.cell? ⟨w.heap.size + 1 + 1, 0, none⟩ = some (.string X3) := (by rw [← HX3.out, hB.cell]; rfl); have r1 : w3.cell? ⟨w.heap.size + 1 + 1, 1, none⟩ = some ev := (by rw [hB.cell]; rfl); obtain ⟨⟨p0, p1, p2, p3⟩, f0, f1, f2, f3⟩ := cells4 K3.dst; have HK3 := Lib.hid (And.intro (K3.set23 (u := .int .i64 ((readQ2 s).1 : Nat)) (v := .slice B (readQ2 s).2.1.length c')) (And.intro a1 (And.intro a2 (And.intro a3 (And.intro a4 (And.intro a6 hv)))))); clear a1 a2 a3 a4 a6 hB hv K3))
    go_wp2_with (go_at_call 87; (with_reducible refine (F.out _ _ HK3.out.1.ext HK3.out.1.rdr).mono ?_); rintro e w4 ⟨⟨v4, rfl⟩, h4, k4⟩; have HK4 := Lib.hid (And.intro (HK3.out.1.chg k4 h4) k4); clear h4 k4 r0 r1)
    clear p0 p1 p2 p3 f0 f1 f2 f3
    have nA : ∀ ad, A = some ad → w.heap.size + 3 ≤ ad.block := fun ad e => by have := HK1.out.2.2.2.1 ad e; simpa using this
    have nB : ∀ ad, B = some ad → w.heap.size + 3 ≤ ad.block := fun ad e => by have := HK3.out.2.2.2.1 ad e; have h2 := HK2.out.2.size; have h1 := HK1.out.2.2.2.2.2.size; simp at h1 h2; omega
    have iA := (((((HK1.out.2.2.2.2.1.other ⟨w.heap.size + 1, 0, none⟩ (.int .i64 ((readQ1 s).1 : Nat)) (fun ad e => by have := nA ad e; show ad.block ≠ w.heap.size + 1; omega)).other ⟨w.heap.size + 1, 1, none⟩ (.slice A (readQ1 s).2.1.length c) (fun ad e => by have := nA ad e; show ad.block ≠ w.heap.size + 1; omega)).chg HK2.out.2 (fun ad e => by have := nA ad e; omega)).chg HK3.out.2.2.2.2.2.1 (fun ad e => by have := nA ad e; omega)).other ⟨w.heap.size + 1, 2, none⟩ (.int .i64 ((readQ2 s).1 : Nat)) (fun ad e => by have := nA ad e; show ad.block ≠ w.heap.size + 1; omega)).other ⟨w.heap.size + 1, 3, none⟩ (.slice B (readQ2 s).2.1.length c') (fun ad e => by have := nA ad e; show ad.block ≠ w.heap.size + 1; omega)
    have iB := (HK3.out.2.2.2.2.1.other ⟨w.heap.size + 1, 2, none⟩ (.int .i64 ((readQ2 s).1 : Nat)) (fun ad e => by have := nB ad e; show ad.block ≠ w.heap.size + 1; omega)).other ⟨w.heap.size + 1, 3, none⟩ (.slice B (readQ2 s).2.1.length c') (fun ad e => by have := nB ad e; show ad.block ≠ w.heap.size + 1; omega)
    have KF := HK4.out.1
    replace iA := iA.chg HK4.out.2 (fun ad e => by have := nA ad e; omega)
    replace iB := iB.chg HK4.out.2 (fun ad e => by have := nB ad e; omega)
    clear HK4
    generalize hWf : w4 = Wf at *
    clear hWf
    obtain ⟨evr, hBr, hvr⟩ := KF.rdr
    have x1 : Wf.cell? ⟨w.heap.size + 1 + 1, 1, none⟩ = some evr := by rw [hBr.cell]; rfl
    obtain ⟨⟨p0, p1, p2, p3⟩, f0, f1, f2, f3⟩ := cells4 KF.dst
    obtain ⟨⟨g0, g1, g2, g3⟩, h0, h1, h2, h3⟩ := cells4 KF.res
    have HF := Lib.hid (And.intro KF.res (And.intro KF.ext (And.intro hvr (And.intro iA iB))))
    clear KF hBr hvr iA iB
    go_region
    go_wp2
    obtain ⟨s0, s1, s2, s3, hE⟩ := res_store4D (u0 := .int .i64 ((readQ1 s).1 : Nat)) (u1 := .slice A (readQ1 s).2.1.length c) (u2 := .int .i64 ((readQ2 s).1 : Nat)) (u3 := .slice B (readQ2 s).2.1.length c') HF.out.1 HF.out.2.1 (Nat.le_refl _)
    refine bodyPost_ret (v := .tuple #[.agg #[.int .i64 ((readQ1 s).1 : Nat), .slice A (readQ1 s).2.1.length c, .int .i64 ((readQ2 s).1 : Nat), .slice B (readQ2 s).2.1.length c'], evr]) (by simp [results, Tryz.results81, go_sem, s0, s1, s2, s3]) rfl ?_
    refine ⟨A, c, B, c', evr, rfl, HK1.out.2.1, HK3.out.2.1, HK1.out.2.2.1, HK3.out.2.2.1, ?_, ?_, ?_, hE.drew, nA, nB⟩
    · have i := HF.out.2.2.2.1
      have n := nA
      exact Il.ext ((((i.other _ _ (fun ad e => by have := n ad e; show ad.block ≠ w.heap.size; omega)).other _ _ (fun ad e => by have := n ad e; show ad.block ≠ w.heap.size; omega)).other _ _ (fun ad e => by have := n ad e; show ad.block ≠ w.heap.size; omega)).other _ _ (fun ad e => by have := n ad e; show ad.block ≠ w.heap.size; omega)) (Ext.refl _).drew
    · have i := HF.out.2.2.2.2
      have n := nB
      exact Il.ext ((((i.other _ _ (fun ad e => by have := n ad e; show ad.block ≠ w.heap.size; omega)).other _ _ (fun ad e => by have := n ad e; show ad.block ≠ w.heap.size; omega)).other _ _ (fun ad e => by have := n ad e; show ad.block ≠ w.heap.size; omega)).other _ _ (fun ad e => by have := n ad e; show ad.block ≠ w.heap.size; omega)) (Ext.refl _).drew
    · rw [HC.out]; exact HF.out.2.2.1
  · have HC := Lib.hid (show readF s = (readQ2 s).2.2.2 by rw [HQ.out.2.2.2.2.2.1, ← hXe, hemp]; simp)
    clear hXe
    go_wp2_with (first | (go_at_call 85; (with_reducible refine (P.out _ (s, false) HQ.out.2.2.2.2.2.2.2 HK0.out.ext HK0.out.rdr).mono ?_); rintro e w1 ⟨A, c, he, a1, a2, a3, a4, a5, a6⟩; rw [HQ.out.1] at he a1 a4 a5; subst he; have K1 := HK0.out.chg a6 a5; obtain ⟨⟨p0, p1, p2, p3⟩, f0, f1, f2, f3⟩ := cells4 K1.dst; have HK1 := Lib.hid (And.intro (K1.set01 (u := .int .i64 ((readQ1 s).1 : Nat)) (v := .slice A (readQ1 s).2.1.length c)) (And.intro a1 (And.intro a2 (And.intro a3 (And.intro a4 a6))))); clear a1 a2 a3 a4 a5 a6 K1) | (go_at_call 86; (with_reducible refine (M.out _ (readQ1 s).2.2 (Nat.le_trans HQ.out.2.2.1.2.2 HQ.out.2.2.2.2.2.2.2) HK1.out.1.ext HK1.out.1.rdr).mono ?_); rintro e w2 ⟨⟨v, rfl⟩, h2, k2⟩; have HK2 := Lib.hid (And.intro (HK1.out.1.chg k2 h2) k2); clear h2 k2) | (go_at_call 85; (with_reducible refine (P.out _ (mustQ [59, 32] (readQ1 s).2.2) (Nat.le_trans HQ.out.2.2.2.1 (Nat.le_trans HQ.out.2.2.1.2.2 HQ.out.2.2.2.2.2.2.2)) HK2.out.1.ext HK2.out.1.rdr).mono ?_); rintro e w3 ⟨B, c', he, a1, a2, a3, a4, a5, a6⟩; rw [HQ.out.2.1] at he a1 a4 a5; subst he; have K3 := HK2.out.1.chg a6 a5; obtain ⟨ev, hB, hv⟩ := a5; have r0 : w3.cell? ⟨w.heap.size + 1 + 1, 0, none⟩ = some (.string X3) := (by rw [← HX3.out, hB.cell]; rfl); have r1 : w3.cell? ⟨w.heap.size + 1 + 1, 1, none⟩ = some ev := (by rw [hB.cell]; rfl); obtain ⟨⟨p0, p1, p2, p3⟩, f0, f1, f2, f3⟩ := cells4 K3.dst; have HK3 := Lib.hid (And.intro (K3.set23 (u := .int .i64 ((readQ2 s).1 : Nat)) (v := .slice B (readQ2 s).2.1.length c')) (And.intro a1 (And.intro a2 (And.intro a3 (And.intro a4 (And.intro a6 hv)))))); clear a1 a2 a3 a4 a6 hB hv K3))
    clear p0 p1 p2 p3 f0 f1 f2 f3 r0 r1
    have nA : ∀ ad, A = some ad → w.heap.size + 3 ≤ ad.block := fun ad e => by have := HK1.out.2.2.2.1 ad e; simpa using this
    have nB : ∀ ad, B = some ad → w.heap.size + 3 ≤ ad.block := fun ad e => by have := HK3.out.2.2.2.1 ad e; have h2 := HK2.out.2.size; have h1 := HK1.out.2.2.2.2.2.size; simp at h1 h2; omega
    have iA := (((((HK1.out.2.2.2.2.1.other ⟨w.heap.size + 1, 0, none⟩ (.int .i64 ((readQ1 s).1 : Nat)) (fun ad e => by have := nA ad e; show ad.block ≠ w.heap.size + 1; omega)).other ⟨w.heap.size + 1, 1, none⟩ (.slice A (readQ1 s).2.1.length c) (fun ad e => by have := nA ad e; show ad.block ≠ w.heap.size + 1; omega)).chg HK2.out.2 (fun ad e => by have := nA ad e; omega)).chg HK3.out.2.2.2.2.2.1 (fun ad e => by have := nA ad e; omega)).other ⟨w.heap.size + 1, 2, none⟩ (.int .i64 ((readQ2 s).1 : Nat)) (fun ad e => by have := nA ad e; show ad.block ≠ w.heap.size + 1; omega)).other ⟨w.heap.size + 1, 3, none⟩ (.slice B (readQ2 s).2.1.length c') (fun ad e => by have := nA ad e; show ad.block ≠ w.heap.size + 1; omega)
    have iB := (HK3.out.2.2.2.2.1.other ⟨w.heap.size + 1, 2, none⟩ (.int .i64 ((readQ2 s).1 : Nat)) (fun ad e => by have := nB ad e; show ad.block ≠ w.heap.size + 1; omega)).other ⟨w.heap.size + 1, 3, none⟩ (.slice B (readQ2 s).2.1.length c') (fun ad e => by have := nB ad e; show ad.block ≠ w.heap.size + 1; omega)
    have KF := HK3.out.1
    generalize (w3.setCell ⟨w.heap.size + 1, 2, none⟩ (.int .i64 ((readQ2 s).1 : Nat))).setCell ⟨w.heap.size + 1, 3, none⟩ (.slice B (readQ2 s).2.1.length c') = Wf at *
    obtain ⟨evr, hBr, hvr⟩ := KF.rdr
    have x1 : Wf.cell? ⟨w.heap.size + 1 + 1, 1, none⟩ = some evr := by rw [hBr.cell]; rfl
    obtain ⟨⟨p0, p1, p2, p3⟩, f0, f1, f2, f3⟩ := cells4 KF.dst
    obtain ⟨⟨g0, g1, g2, g3⟩, h0, h1, h2, h3⟩ := cells4 KF.res
    have HF := Lib.hid (And.intro KF.res (And.intro KF.ext (And.intro hvr (And.intro iA iB))))
    clear KF hBr hvr iA iB
    go_region
    go_wp2
    obtain ⟨s0, s1, s2, s3, hE⟩ := res_store4D (u0 := .int .i64 ((readQ1 s).1 : Nat)) (u1 := .slice A (readQ1 s).2.1.length c) (u2 := .int .i64 ((readQ2 s).1 : Nat)) (u3 := .slice B (readQ2 s).2.1.length c') HF.out.1 HF.out.2.1 (Nat.le_refl _)
    refine bodyPost_ret (v := .tuple #[.agg #[.int .i64 ((readQ1 s).1 : Nat), .slice A (readQ1 s).2.1.length c, .int .i64 ((readQ2 s).1 : Nat), .slice B (readQ2 s).2.1.length c'], evr]) (by simp [results, Tryz.results81, go_sem, s0, s1, s2, s3]) rfl ?_
    refine ⟨A, c, B, c', evr, rfl, HK1.out.2.1, HK3.out.2.1, HK1.out.2.2.1, HK3.out.2.2.1, ?_, ?_, ?_, hE.drew, nA, nB⟩
    · have i := HF.out.2.2.2.1
      have n := nA
      exact Il.ext ((((i.other _ _ (fun ad e => by have := n ad e; show ad.block ≠ w.heap.size; omega)).other _ _ (fun ad e => by have := n ad e; show ad.block ≠ w.heap.size; omega)).other _ _ (fun ad e => by have := n ad e; show ad.block ≠ w.heap.size; omega)).other _ _ (fun ad e => by have := n ad e; show ad.block ≠ w.heap.size; omega)) (Ext.refl _).drew
    · have i := HF.out.2.2.2.2
      have n := nB
      exact Il.ext ((((i.other _ _ (fun ad e => by have := n ad e; show ad.block ≠ w.heap.size; omega)).other _ _ (fun ad e => by have := n ad e; show ad.block ≠ w.heap.size; omega)).other _ _ (fun ad e => by have := n ad e; show ad.block ≠ w.heap.size; omega)).other _ _ (fun ad e => by have := n ad e; show ad.block ≠ w.heap.size; omega)) (Ext.refl _).drew
    · rw [HC.out]; exact HF.out.2.2.1
end
end Go.Proofs.YtopgbggighaknaaGreatDoor
/- desc: Parse. -/
namespace Go.Proofs.YtopgbggighaknaaGreatDoor
open Go.RowKit Go
/-- What Parse answers. -/
def DParseR (w : World) (s : List UInt8) (e : Ending) (w' : World) : Prop :=
  match parseP s with
  | none => e = .returned (.tuple #[.agg #[.int .i64 0, .slice none 0 0, .int .i64 0, .slice none 0 0], .int .i64 40]) ∧ Ext w w'
  | some d => ∃ A c B c', e = .returned (.tuple #[.agg #[.int .i64 d.size, .slice A d.ptrs.length c, .int .i64 d.elem, .slice B d.eptrs.length c'], .int .i64 0]) ∧
      d.ptrs.length ≤ c ∧ d.eptrs.length ≤ c' ∧ c ≤ maxLen ∧ c' ≤ maxLen ∧ Il w' A d.ptrs.length d.ptrs ∧ Il w' B d.eptrs.length d.eptrs ∧ (∀ ad, A = some ad → w.heap.size ≤ ad.block) ∧ (∀ ad, B = some ad → w.heap.size ≤ ad.block) ∧ Ext w w'
theorem told2_new (j k : Int) (u v : Value) (w : World) (hG : G w) (hu : Code u j) (hv : Code v k) :
    Calls Tryz.prog 52 #[.slice (some ⟨w.heap.size, 0, none⟩) 2 2] (w.alloc (.cells #[u, v] 48)) fun e w' => e = .returned (.int .i64 (first2 j k)) ∧ Ext (w.alloc (.cells #[u, v] 48)) w' :=
  told2_is j k u v _ 48 _ (hG.ext (ext1 _ _)) (Blk.new w _ _) hu hv
theorem some_read {s : List UInt8} {d : DescR} (h : parseP s = some d) : readF s = false ∧ readD s = d ∧ rightB (readD s) = true := by
  obtain ⟨h1, rfl⟩ := parse_some h
  have hR := right_of h1
  have hl := lens_of hR
  have a1 := hR.s0
  have a2 := hR.e0
  obtain ⟨h2, h3⟩ := read_of h1 (by omega) (by omega)
  exact ⟨h2, h3, by rw [h3]; exact h1⟩
theorem none_read {s : List UInt8} (h : parseP s = none) : readF s = true ∨ rightB (readD s) = false := by
  cases hF : readF s
  · right
    cases hR : rightB (readD s)
    · rfl
    · exact absurd (text_of hF) ((parse_none s).1 h _ hR)
  · exact .inl rfl
section
set_option maxHeartbeats 4000000 in
theorem dparse_is (s : List UInt8) (hl : s.length ≤ 100000) (w : World) (hG : G w) :
    Calls Tryz.prog 72 #[tv s] w (DParseR w s) := by
  have E1 := ext1 w (.cells #[.int .i64 0, .slice none 0 0, .int .i64 0, .slice none 0 0] 25)
  have R := Lib.hid (read_is s hl _ (hG.ext E1))
  have l1 := part_len (s, false)
  have l3 := part_len (mustQ [59, 32] (readQ1 s).2.2)
  have HL := Lib.hid (show (readQ1 s).2.1.length ≤ 1000000 ∧ (readQ2 s).2.1.length ≤ 1000000 from ⟨Nat.le_trans l1.2.1 (by decide), Nat.le_trans l3.2.1 (by decide)⟩)
  have HG := Lib.hid (fun W (hW : Ext w W) => hG.ext hW)
  have HE := Lib.hid E1
  clear E1 hG l1 l3
  unfold DParseR
  cases hp : parseP s with
  | none =>
    have HN := Lib.hid (none_read hp)
    cases hF : readF s
    · cases hR : rightB (readD s)
      · have ND := Lib.hid (fun (W : World) (hW : Ext w W) (A B : Option Addr) (c c' : Nat) (hA : Il W A _ _) (hB : Il W B _ _) => noDesc_is A B (readQ1 s).2.1.length (readQ2 s).2.1.length c c' ((readQ1 s).1 : Nat) ((readQ2 s).1 : Nat) ((readQ1 s).2.1.map Int.ofNat) ((readQ2 s).2.1.map Int.ofNat) HL.out.1 HL.out.2 W (HG.out W hW) hA hB)
        rw [show rightB ⟨((readQ1 s).1 : Nat), (readQ1 s).2.1.map Int.ofNat, ((readQ2 s).1 : Nat), (readQ2 s).2.1.map Int.ofNat⟩ = false from hR] at ND
        have HD := Lib.hid hF
        clear hp hF hR
        go_enter Tryz.func72, Tryz.ntmps72
        go_wp2_with (first | (go_at_call 81; (with_reducible refine R.out.mono ?_); rintro e w1 ⟨A, c, B, c', ev, rfl, a1, a2, a3, a4, a5, a6, a7, a8, a9, a10⟩; rw [HD.out] at a7; have H7 := Lib.hid (show Code ev 0 from a7); obtain rfl := code_nil H7.out rfl; have K1 := Lib.hid (And.intro a1 (And.intro a2 (And.intro a3 (And.intro a4 (And.intro a5 (And.intro a6 a8)))))); clear a1 a2 a3 a4 a5 a6 a7 a8 a9 a10) | (go_at_call 53; (with_reducible refine (ND.out _ (Ext.trans (Ext.trans HE.out K1.out.2.2.2.2.2.2) (ext1 _ _)) A B c c' (K1.out.2.2.2.2.1.ext (ext1 _ _)) (K1.out.2.2.2.2.2.1.ext (ext1 _ _))).mono ?_); rintro e w2 ⟨⟨v, rfl, hv⟩, k2⟩; have H8 := Lib.hid (show Code v 40 from hv); obtain ⟨te8, pe8, rfl⟩ := code_err H8.out (by decide); have K2 := Lib.hid k2; clear hv k2) | (go_at_call 52; (with_reducible refine (told2_new 0 40 _ _ w2 (HG.out _ (Ext.trans (Ext.trans HE.out K1.out.2.2.2.2.2.2) (Ext.trans (ext1 _ _) K2.out))) H7.out H8.out).mono ?_); rintro e w3 ⟨rfl, k3⟩; have K3 := Lib.hid (Ext.trans (Ext.trans (ext1 _ _) K2.out) (Ext.trans (ext1 _ _) k3)); clear k3; obtain ⟨⟨r0, r1, r2, r3⟩, g0, g1, g2, g3⟩ := cells4 (at_new (Ext.trans K1.out.2.2.2.2.2.2 K3.out))))
        obtain ⟨s0, s1, s2, s3, hE⟩ := res_store4D (u0 := .int .i64 0) (u1 := .slice none 0 0) (u2 := .int .i64 0) (u3 := .slice none 0 0) (at_new (Ext.trans K1.out.2.2.2.2.2.2 K3.out)) (Ext.trans (Ext.trans HE.out K1.out.2.2.2.2.2.2) K3.out) (Nat.le_refl _)
        exact bodyPost_ret (v := .tuple #[.agg #[.int .i64 0, .slice none 0 0, .int .i64 0, .slice none 0 0], .int .i64 40]) (by simp [results, Tryz.results72, go_sem, s0, s1, s2, s3, first2]) rfl ⟨rfl, hE⟩
      · exact absurd HN.out (by rw [hF, hR]; simp)
    · cases hR : rightB (readD s)
      · have ND := Lib.hid (fun (W : World) (hW : Ext w W) (A B : Option Addr) (c c' : Nat) (hA : Il W A _ _) (hB : Il W B _ _) => noDesc_is A B (readQ1 s).2.1.length (readQ2 s).2.1.length c c' ((readQ1 s).1 : Nat) ((readQ2 s).1 : Nat) ((readQ1 s).2.1.map Int.ofNat) ((readQ2 s).2.1.map Int.ofNat) HL.out.1 HL.out.2 W (HG.out W hW) hA hB)
        rw [show rightB ⟨((readQ1 s).1 : Nat), (readQ1 s).2.1.map Int.ofNat, ((readQ2 s).1 : Nat), (readQ2 s).2.1.map Int.ofNat⟩ = false from hR] at ND
        have HD := Lib.hid hF
        clear hp hF hR
        go_enter Tryz.func72, Tryz.ntmps72
        go_wp2_with (first | (go_at_call 81; (with_reducible refine R.out.mono ?_); rintro e w1 ⟨A, c, B, c', ev, rfl, a1, a2, a3, a4, a5, a6, a7, a8, a9, a10⟩; rw [HD.out] at a7; have H7 := Lib.hid (show Code ev 40 from a7); obtain ⟨te7, pe7, rfl⟩ := code_err H7.out (by decide); have K1 := Lib.hid (And.intro a1 (And.intro a2 (And.intro a3 (And.intro a4 (And.intro a5 (And.intro a6 a8)))))); clear a1 a2 a3 a4 a5 a6 a7 a8 a9 a10) | (go_at_call 53; (with_reducible refine (ND.out _ (Ext.trans (Ext.trans HE.out K1.out.2.2.2.2.2.2) (ext1 _ _)) A B c c' (K1.out.2.2.2.2.1.ext (ext1 _ _)) (K1.out.2.2.2.2.2.1.ext (ext1 _ _))).mono ?_); rintro e w2 ⟨⟨v, rfl, hv⟩, k2⟩; have H8 := Lib.hid (show Code v 40 from hv); obtain ⟨te8, pe8, rfl⟩ := code_err H8.out (by decide); have K2 := Lib.hid k2; clear hv k2) | (go_at_call 52; (with_reducible refine (told2_new 40 40 _ _ w2 (HG.out _ (Ext.trans (Ext.trans HE.out K1.out.2.2.2.2.2.2) (Ext.trans (ext1 _ _) K2.out))) H7.out H8.out).mono ?_); rintro e w3 ⟨rfl, k3⟩; have K3 := Lib.hid (Ext.trans (Ext.trans (ext1 _ _) K2.out) (Ext.trans (ext1 _ _) k3)); clear k3; obtain ⟨⟨r0, r1, r2, r3⟩, g0, g1, g2, g3⟩ := cells4 (at_new (Ext.trans K1.out.2.2.2.2.2.2 K3.out))))
        obtain ⟨s0, s1, s2, s3, hE⟩ := res_store4D (u0 := .int .i64 0) (u1 := .slice none 0 0) (u2 := .int .i64 0) (u3 := .slice none 0 0) (at_new (Ext.trans K1.out.2.2.2.2.2.2 K3.out)) (Ext.trans (Ext.trans HE.out K1.out.2.2.2.2.2.2) K3.out) (Nat.le_refl _)
        exact bodyPost_ret (v := .tuple #[.agg #[.int .i64 0, .slice none 0 0, .int .i64 0, .slice none 0 0], .int .i64 40]) (by simp [results, Tryz.results72, go_sem, s0, s1, s2, s3, first2]) rfl ⟨rfl, hE⟩
      · have ND := Lib.hid (fun (W : World) (hW : Ext w W) (A B : Option Addr) (c c' : Nat) (hA : Il W A _ _) (hB : Il W B _ _) => noDesc_is A B (readQ1 s).2.1.length (readQ2 s).2.1.length c c' ((readQ1 s).1 : Nat) ((readQ2 s).1 : Nat) ((readQ1 s).2.1.map Int.ofNat) ((readQ2 s).2.1.map Int.ofNat) HL.out.1 HL.out.2 W (HG.out W hW) hA hB)
        rw [show rightB ⟨((readQ1 s).1 : Nat), (readQ1 s).2.1.map Int.ofNat, ((readQ2 s).1 : Nat), (readQ2 s).2.1.map Int.ofNat⟩ = true from hR] at ND
        have HD := Lib.hid hF
        clear hp hF hR
        go_enter Tryz.func72, Tryz.ntmps72
        go_wp2_with (first | (go_at_call 81; (with_reducible refine R.out.mono ?_); rintro e w1 ⟨A, c, B, c', ev, rfl, a1, a2, a3, a4, a5, a6, a7, a8, a9, a10⟩; rw [HD.out] at a7; have H7 := Lib.hid (show Code ev 40 from a7); obtain ⟨te7, pe7, rfl⟩ := code_err H7.out (by decide); have K1 := Lib.hid (And.intro a1 (And.intro a2 (And.intro a3 (And.intro a4 (And.intro a5 (And.intro a6 a8)))))); clear a1 a2 a3 a4 a5 a6 a7 a8 a9 a10) | (go_at_call 53; (with_reducible refine (ND.out _ (Ext.trans (Ext.trans HE.out K1.out.2.2.2.2.2.2) (ext1 _ _)) A B c c' (K1.out.2.2.2.2.1.ext (ext1 _ _)) (K1.out.2.2.2.2.2.1.ext (ext1 _ _))).mono ?_); rintro e w2 ⟨⟨v, rfl, hv⟩, k2⟩; have H8 := Lib.hid (show Code v 0 from hv); obtain rfl := code_nil H8.out rfl; have K2 := Lib.hid k2; clear hv k2) | (go_at_call 52; (with_reducible refine (told2_new 40 0 _ _ w2 (HG.out _ (Ext.trans (Ext.trans HE.out K1.out.2.2.2.2.2.2) (Ext.trans (ext1 _ _) K2.out))) H7.out H8.out).mono ?_); rintro e w3 ⟨rfl, k3⟩; have K3 := Lib.hid (Ext.trans (Ext.trans (ext1 _ _) K2.out) (Ext.trans (ext1 _ _) k3)); clear k3; obtain ⟨⟨r0, r1, r2, r3⟩, g0, g1, g2, g3⟩ := cells4 (at_new (Ext.trans K1.out.2.2.2.2.2.2 K3.out))))
        obtain ⟨s0, s1, s2, s3, hE⟩ := res_store4D (u0 := .int .i64 0) (u1 := .slice none 0 0) (u2 := .int .i64 0) (u3 := .slice none 0 0) (at_new (Ext.trans K1.out.2.2.2.2.2.2 K3.out)) (Ext.trans (Ext.trans HE.out K1.out.2.2.2.2.2.2) K3.out) (Nat.le_refl _)
        exact bodyPost_ret (v := .tuple #[.agg #[.int .i64 0, .slice none 0 0, .int .i64 0, .slice none 0 0], .int .i64 40]) (by simp [results, Tryz.results72, go_sem, s0, s1, s2, s3, first2]) rfl ⟨rfl, hE⟩
  | some d =>
    obtain ⟨hF, hD, hR⟩ := some_read hp
    have ND := Lib.hid (fun (W : World) (hW : Ext w W) (A B : Option Addr) (c c' : Nat) (hA : Il W A _ _) (hB : Il W B _ _) => noDesc_is A B (readQ1 s).2.1.length (readQ2 s).2.1.length c c' ((readQ1 s).1 : Nat) ((readQ2 s).1 : Nat) ((readQ1 s).2.1.map Int.ofNat) ((readQ2 s).2.1.map Int.ofNat) HL.out.1 HL.out.2 W (HG.out W hW) hA hB)
    rw [show rightB ⟨((readQ1 s).1 : Nat), (readQ1 s).2.1.map Int.ofNat, ((readQ2 s).1 : Nat), (readQ2 s).2.1.map Int.ofNat⟩ = true from hR] at ND
    have HD := Lib.hid (And.intro hD hF)
    clear hp hF hD hR
    go_enter Tryz.func72, Tryz.ntmps72
    go_wp2_with (first | (go_at_call 81; (with_reducible refine R.out.mono ?_); rintro e w1 ⟨A, c, B, c', ev, rfl, a1, a2, a3, a4, a5, a6, a7, a8, a9, a10⟩; rw [HD.out.2] at a7; obtain rfl := code_nil a7 rfl; have K1 := Lib.hid (And.intro a1 (And.intro a2 (And.intro a3 (And.intro a4 (And.intro a5 (And.intro a6 a8)))))); have K9 := Lib.hid (And.intro a9 a10); clear a1 a2 a3 a4 a5 a6 a7 a8 a9 a10) | (go_at_call 53; (with_reducible refine (ND.out _ (Ext.trans (Ext.trans HE.out K1.out.2.2.2.2.2.2) (ext1 _ _)) A B c c' (K1.out.2.2.2.2.1.ext (ext1 _ _)) (K1.out.2.2.2.2.2.1.ext (ext1 _ _))).mono ?_); rintro e w2 ⟨⟨v, rfl, hv⟩, k2⟩; obtain rfl := code_nil hv rfl; have K2 := Lib.hid k2; clear hv k2) | (go_at_call 52; (with_reducible refine (told2_new 0 0 _ _ w2 (HG.out _ (Ext.trans (Ext.trans HE.out K1.out.2.2.2.2.2.2) (Ext.trans (ext1 _ _) K2.out))) code_0 code_0).mono ?_); rintro e w3 ⟨rfl, k3⟩; have K3 := Lib.hid (Ext.trans (Ext.trans (ext1 _ _) K2.out) (Ext.trans (ext1 _ _) k3)); have K4 := Lib.hid (Ext.trans K2.out (Ext.trans (ext1 _ _) k3)); clear k3; obtain ⟨⟨p0, p1, p2, p3⟩, f0, f1, f2, f3⟩ := cells4 (at_new K4.out); obtain ⟨⟨r0, r1, r2, r3⟩, g0, g1, g2, g3⟩ := cells4 (at_new (Ext.trans K1.out.2.2.2.2.2.2 K3.out))))
    obtain ⟨s0, s1, s2, s3, hE⟩ := res_store4D (u0 := .int .i64 ((readQ1 s).1 : Nat)) (u1 := .slice A (readQ1 s).2.1.length c) (u2 := .int .i64 ((readQ2 s).1 : Nat)) (u3 := .slice B (readQ2 s).2.1.length c') (at_new (Ext.trans K1.out.2.2.2.2.2.2 K3.out)) (Ext.trans (Ext.trans HE.out K1.out.2.2.2.2.2.2) K3.out) (Nat.le_refl _)
    have nA : ∀ ad, A = some ad → ad.block ≠ w.heap.size := fun ad e => by have := K9.out.1 ad e; simp at this; omega
    have nB : ∀ ad, B = some ad → ad.block ≠ w.heap.size := fun ad e => by have := K9.out.2 ad e; simp at this; omega
    have iA := ((((K1.out.2.2.2.2.1.ext K3.out).other ⟨w.heap.size, 0, none⟩ (.int .i64 ((readQ1 s).1 : Nat)) nA).other ⟨w.heap.size, 1, none⟩ (.slice A (readQ1 s).2.1.length c) nA).other ⟨w.heap.size, 2, none⟩ (.int .i64 ((readQ2 s).1 : Nat)) nA).other ⟨w.heap.size, 3, none⟩ (.slice B (readQ2 s).2.1.length c') nA
    have iB := ((((K1.out.2.2.2.2.2.1.ext K3.out).other ⟨w.heap.size, 0, none⟩ (.int .i64 ((readQ1 s).1 : Nat)) nB).other ⟨w.heap.size, 1, none⟩ (.slice A (readQ1 s).2.1.length c) nB).other ⟨w.heap.size, 2, none⟩ (.int .i64 ((readQ2 s).1 : Nat)) nB).other ⟨w.heap.size, 3, none⟩ (.slice B (readQ2 s).2.1.length c') nB
    refine bodyPost_ret (v := .tuple #[.agg #[.int .i64 ((readQ1 s).1 : Nat), .slice A (readQ1 s).2.1.length c, .int .i64 ((readQ2 s).1 : Nat), .slice B (readQ2 s).2.1.length c'], .int .i64 0]) (by simp [results, Tryz.results72, go_sem, s0, s1, s2, s3]) rfl ?_
    rw [← HD.out.1]
    simp only [readD, List.length_map]
    exact ⟨A, c, B, c', rfl, K1.out.1, K1.out.2.1, K1.out.2.2.1, K1.out.2.2.2.1, iA, iB, (fun ad e => by have := K9.out.1 ad e; simp at this; omega), (fun ad e => by have := K9.out.2 ad e; simp at this; omega), hE⟩
end
end Go.Proofs.YtopgbggighaknaaGreatDoor
/- (*strings.Builder).copyCheck, WriteString at this translation. -/
namespace Go.Proofs.YtopgbggighaknaaGreatDoor
open Go.RowKit Go
theorem sizeBuilder : (Tryz.prog.info? 61).map (·.size) = some 2 := by kernel_rfl
set_option maxHeartbeats 1000000 in
set_option maxRecDepth 100000 in
theorem copyCheck_used (b : Nat) (w : World) (h0 : w.cell? ⟨b, 0, none⟩ = some (.pointer (some ⟨b, 0, none⟩))) :
    Calls Tryz.prog 55 #[.pointer (some ⟨b, 0, none⟩)] w fun e w' => e = .returned (.tuple #[]) ∧ w' = w := by
  obtain ⟨j, hj, _⟩ := Option.map_eq_some_iff.1 sizeBuilder
  go_enter Tryz.func55, Tryz.ntmps55
  go_wp2
  rw [Lib.run_neq_ptr_same w _ Tryz.underlying58 hj]
  go_wp2
  go_end0
  exact ⟨rfl, rfl⟩
set_option maxHeartbeats 1000000 in
set_option maxRecDepth 100000 in
theorem copyCheck_fresh (b : Nat) (w : World) (h0 : w.cell? ⟨b, 0, none⟩ = some (.pointer none)) (hsh : w.shape? b = some (61, 2)) (hfz : w.frozen? ⟨b, 0, none⟩ = false) :
    Calls Tryz.prog 55 #[.pointer (some ⟨b, 0, none⟩)] w fun e w' => e = .returned (.tuple #[]) ∧ w' = w.setCell ⟨b, 0, none⟩ (.pointer (some ⟨b, 0, none⟩)) := by
  obtain ⟨j, hj, hjs⟩ := Option.map_eq_some_iff.1 sizeBuilder
  go_enter Tryz.func55, Tryz.ntmps55
  go_wp2
  rw [Lib.run_to_unsafe w ⟨b, 0, none⟩ Tryz.underlying58 Tryz.underlying89 hj (by rw [hjs]; decide) hsh (Nat.zero_lt_succ 1)]
  simp only [Result.andThen]
  rw [Oper.upon_value]
  go_wp2
  rw [run_callFunc_extern Tryz.func67 (by kernel_rfl) (by kernel_rfl) (by kernel_rfl) (e := Extern.AbiNoEscape.same) (by kernel_rfl)]
  rw [Lib.run_noEscape]
  simp only [Result.andThen]
  rw [Oper.upon_value]
  go_wp2
  rw [Lib.run_from_unsafe w ⟨b, 0, none⟩ Tryz.underlying89 Tryz.underlying58 hj hsh Tryz.Builder_Extra_169.liesBuilder]
  simp only [Result.andThen]
  rw [Oper.upon_value]
  go_wp2
  go_end0
  exact ⟨rfl, rfl⟩
abbrev IsB (B b : Nat) (l : List UInt8) (w : World) : Prop := Lib.IsBuilder 61 5 B b (Lib.byteCells l) w
theorem copyCheck_is (B b : Nat) (l : List UInt8) (w : World) (h : IsB B b l w) :
    Calls Tryz.prog 55 #[.pointer (some ⟨b, 0, none⟩)] w fun e w' => e = .returned (.tuple #[]) ∧ (Lib.BuilderAt 61 5 B b (.pointer (some ⟨b, 0, none⟩)) (Lib.byteCells l) w' ∧ Below B w w') := by
  rcases h with h | h
  · refine (copyCheck_fresh b w h.cell0 h.shape h.frozen0).mono ?_
    rintro e w' ⟨rfl, rfl⟩
    exact ⟨rfl, h.used _, (Below.refl B w).setCell (p := ⟨b, 0, none⟩) h.1 _⟩
  · refine (copyCheck_used b w h.cell0).mono ?_
    rintro e w' ⟨rfl, rfl⟩
    exact ⟨rfl, h, Below.refl B _⟩
theorem strCells_bytes (s : List UInt8) : Lib.strCells ⟨s.toArray⟩ = Lib.byteCells s := by simp [Lib.strCells, Lib.byteCells]
theorem infoU8 : (Tryz.prog.info? 5).map (fun i => (i.zero, i.size, i.bytes)) = some (some (.int .u8 0), 1, 1) := by kernel_rfl
set_option maxHeartbeats 2000000 in
set_option maxRecDepth 100000 in
theorem writeString_is (B b : Nat) (l s : List UInt8) (w : World) (h : IsB B b l w) (hlen : l.length + s.length ≤ 1000000) (hBw : B ≤ w.heap.size) :
    Calls Tryz.prog 41 #[.pointer (some ⟨b, 0, none⟩), .string ⟨s.toArray⟩] w fun e w' => e = .returned (.tuple #[.int .i64 (s.length : Nat), .nilIface]) ∧ IsB B b (l ++ s) w' ∧ Below B w w' := by
  obtain ⟨i0, hi, hz⟩ := Option.map_eq_some_iff.1 infoU8
  simp only [Prod.mk.injEq] at hz
  obtain ⟨hz0, hz1, hz2⟩ := hz
  have hsz : (ByteArray.mk s.toArray).size = s.length := by show s.toArray.size = _; simp
  have hcl : (Lib.byteCells l).length = l.length := by simp [Lib.byteCells]
  have hcl2 : (Lib.strCells ⟨s.toArray⟩).length = s.length := by rw [strCells_bytes]; simp [Lib.byteCells]
  go_enter Tryz.func41, Tryz.ntmps41
  go_wp2_with (go_at_call 55; refine (copyCheck_is B b l _ h).mono ?_)
  rintro e w1 ⟨rfl, h1, hb1⟩
  obtain ⟨hB, v, hbk, hown, hne⟩ := h1
  have c0 : w1.cell? ⟨b, 0, none⟩ = some (.pointer (some ⟨b, 0, none⟩)) := by rw [Lib.cell_of_heap hbk]; rfl
  have c1 : w1.cell? ⟨b, 1, none⟩ = some v := by rw [Lib.cell_of_heap hbk]; rfl
  go_wp2_with (at_builtin; refine Lib.wpList_append_own_string _ rfl _ _ 59 9 rfl B 5 i0 Tryz.underlying59 Tryz.underlying9 hi hz0 hz1 hz2 _ _ _ rfl hown ⟨s.toArray⟩ rfl ?c3 ?c4 ?c5 ?_)
  case c3 => rw [hcl, hsz]; unfold maxLen; omega
  case c4 => rw [hcl, hsz]; omega
  case c5 => have := hb1.size; omega
  intro v' w2 hown' hgrow _
  have hlt : b < w1.heap.size := by
    rcases Nat.lt_or_ge b w1.heap.size with h' | h'
    · exact h'
    · simp [Array.getElem?_eq_none h'] at hbk
  have hb2 : w2.heap[b]? = some (.cells #[.pointer (some ⟨b, 0, none⟩), v] 61 (0, 0)) := by
    rw [hgrow.block b hlt (fun e => hne e.symm)]
    exact hbk
  have d0 : w2.cell? ⟨b, 0, none⟩ = some (.pointer (some ⟨b, 0, none⟩)) := by rw [Lib.cell_of_heap hb2]; rfl
  have d1 : w2.cell? ⟨b, 1, none⟩ = some v := by rw [Lib.cell_of_heap hb2]; rfl
  have f1 : w2.frozen? ⟨b, 1, none⟩ = false := Lib.frozen_of_heap hb2 1
  obtain ⟨ao, n', cap, rfl⟩ : ∃ ao n' cap, v' = .slice ao n' cap := by
    rcases hown'.2 with ⟨hv, _⟩ | ⟨g, cap, cur, hv, _⟩
    · exact ⟨_, _, _, hv⟩
    · exact ⟨_, _, _, hv⟩
  go_wp2
  go_ret2
  have hl2 : Lib.byteCells (l ++ s) = Lib.byteCells l ++ Lib.strCells ⟨s.toArray⟩ := by rw [strCells_bytes]; simp [Lib.byteCells]
  refine ⟨?_, .inr ?_, ?_⟩
  · first | rfl | (rw [← hsz]; rfl)
  · rw [hl2]
    exact Lib.BuilderAt.put (T := 61) (e := 5) hB hb2 (bs' := Lib.byteCells l ++ Lib.strCells ⟨s.toArray⟩) (by rw [List.length_append, hcl, hcl2]; simpa [hcl, hsz] using hown') (by decide)
  · exact (hb1.grown hgrow (by have := hb1.size; omega) (fun k hk => (hown.lt k hk).1)).setCell (p := ⟨b, 1, none⟩) hB _
end Go.Proofs.YtopgbggighaknaaGreatDoor
