/- head: the nearest right head. -/
import Derived.Test.YtfpefffgegphnaaDoorNumbersH
import Derived.Test.YtfpefffgegphnaaDoorEnv
namespace Go.Proofs.YtfpefffgegphnaaDoor
open Go.RowKit Go
attribute [local go_sem] Oper.semAt_some
namespace H
open HD
theorem set4 {X : World} {B : Nat} {a0 a1 a2 a3 v0 v1 v2 v3 : Value} {t : TypeId} (h : Blk X B #[a0, a1, a2, a3] t) : Blk ((((X.setCell ⟨B, 0, none⟩ v0).setCell ⟨B, 1, none⟩ v1).setCell ⟨B, 2, none⟩ v2).setCell ⟨B, 3, none⟩ v3) B #[v0, v1, v2, v3] t :=
  (((h.set 0 v0).set 1 v1).set 2 v2).set 3 v3
theorem ext_set4 {w X : World} {B : Nat} {v0 v1 v2 v3 : Value} (h : Ext w X) (hB : w.heap.size ≤ B) : Ext w ((((X.setCell ⟨B, 0, none⟩ v0).setCell ⟨B, 1, none⟩ v1).setCell ⟨B, 2, none⟩ v2).setCell ⟨B, 3, none⟩ v3) :=
  (((h.setCell (p := ⟨B, 0, none⟩) hB _).setCell (p := ⟨B, 1, none⟩) hB _).setCell (p := ⟨B, 2, none⟩) hB _).setCell (p := ⟨B, 3, none⟩) hB _
theorem heap_set4 (X : World) (B K : Nat) (v0 v1 v2 v3 : Value) (h : K ≠ B) : ((((X.setCell ⟨B, 0, none⟩ v0).setCell ⟨B, 1, none⟩ v1).setCell ⟨B, 2, none⟩ v2).setCell ⟨B, 3, none⟩ v3).heap[K]? = X.heap[K]? := by
  rw [Below.heap_setCell _ _ _ _ h, Below.heap_setCell _ _ _ _ h, Below.heap_setCell _ _ _ _ h, Below.heap_setCell _ _ _ _ h]
def InI (x : Int) : Prop := -9223372036854775808 ≤ x ∧ x ≤ 9223372036854775807
section
set_option maxHeartbeats 1000000 in
theorem fnear_is (a b s x : Int) (w : World) :
    Calls Tryd.prog 57 #[fldV a b s, .int .i64 x] w fun e w' => e = .returned (.int .i64 (clampV a b x)) ∧ Ext w w' := by
  by_cases h1 : x < a
  · by_cases h2 : b < a
    all_goals
      go_enter Tryd.func57, Tryd.ntmps57
      go_wp2
      all_goals
        go_ret
        exact ⟨ret_int (by unfold clampV; first | omega | (rename_i hh _; rw [if_pos h1] at hh; omega) | (rename_i hh _; rw [if_neg h1] at hh; omega) | (rename_i hh; rw [if_pos h1] at hh; omega) | (rename_i hh; rw [if_neg h1] at hh; omega)), ext1 _ _⟩
  · by_cases h2 : b < x
    all_goals
      go_enter Tryd.func57, Tryd.ntmps57
      go_wp2
      all_goals
        go_ret
        exact ⟨ret_int (by unfold clampV; first | omega | (rename_i hh _; rw [if_pos h1] at hh; omega) | (rename_i hh _; rw [if_neg h1] at hh; omega) | (rename_i hh; rw [if_pos h1] at hh; omega) | (rename_i hh; rw [if_neg h1] at hh; omega)), ext1 _ _⟩
abbrev mkV (m : MkR) : Value := .agg #[.int .i64 m.kind, .int .i64 m.len, .int .i64 m.cls, .int .i64 m.ep]
abbrev mkC (m : MkR) : Array Value := #[.int .i64 m.kind, .int .i64 m.len, .int .i64 m.cls, .int .i64 m.ep]
def nstep (m : MkR) : Nat → MkR
  | 0 => m
  | 1 => ⟨clampV 1 60 m.kind, m.len, m.cls, m.ep⟩
  | 2 => ⟨clampV 1 60 m.kind, m.len, clampV 1 3 m.cls, m.ep⟩
  | 3 => ⟨clampV 1 60 m.kind, m.len, clampV 1 3 m.cls, clampV 0 255 m.ep⟩
  | _ => nearM m
set_option maxHeartbeats 4000000 in
set_option maxRecDepth 100000 in
theorem nearest_is (m : MkR) (w : World) (hT : FTab w) :
    Calls Tryd.prog 48 #[mkV m] w fun e w' => e = .returned (mkV (nearM m)) ∧ Ext w w' := by
  have HT := Lib.hid hT
  clear hT
  refine calls_of_marks Tryd.func48 rfl ?_
  simp only [Tryd.ntmps48, List.size_toArray, List.length_cons, List.length_nil, Nat.reduceAdd, Nat.reduceSub, Array.replicate_succ, Array.replicate_zero, List.push_toArray, List.append_toArray, List.nil_append, List.cons_append]
  go_wp2
  refine wp_world ?_
  intro w1 hw1
  have b1 : Blk w1 (w.heap.size + 1) (mkC zM) 23 := by
    rw [hw1]
    have h := ((Blk.new (w.alloc (.cells (mkC m) 23)) (mkC zM) 23).alloc (.cells (mkC m) 78))
    rw [World.size_alloc] at h
    exact h
  have b2 : Blk w1 (w.heap.size + 1 + 1) (mkC m) 78 := by
    rw [hw1]
    have h := Blk.new ((w.alloc (.cells (mkC m) 23)).alloc (.cells (mkC zM) 23)) (mkC m) 78
    rw [World.size_alloc, World.size_alloc] at h
    exact h
  have E1 : Ext w w1 := by rw [hw1]; exact ext3 _ _ _ _
  have hz : w1.heap.size = w.heap.size + 3 := by rw [hw1]; simp
  have hT1 := HT.out.ext E1
  have hg : 6 < w.heap.size := HT.out.lt
  have HZ := Lib.hid hz
  clear hw1
  refine range_outerV (D := fun k => k = 6) (w0 := w1) rfl (enters_of Tryd.func56 (by kernel_rfl) rfl) (numbers_iter (w.heap.size + 1 + 1) w1 hT1) (by rintro k rfl; omega) (Keep.refl _ _ _)
    (by intro x hx; simp only [numXs, List.mem_cons, List.not_mem_nil, or_false] at hx; rcases hx with rfl | rfl | rfl | rfl <;> rfl)
    (fun k u X => u = (fun _ => False) ∧ k ≤ 4 ∧ Ext w X ∧ Blk X (w.heap.size + 1) (mkC zM) 23 ∧ Blk X (w.heap.size + 1 + 1) (mkC (nstep m k)) 78) (fun _ _ _ _ => False)
    ?hI ?hIx ?hIb ?hIxb (u0 := fun _ => False) ⟨rfl, by omega, E1, b1, b2⟩ ?hround ?hdone ?hstop
  case hI =>
    rintro k u A B ⟨rfl, h0, h1, h2, h3⟩ hb hu
    exact ⟨rfl, h0, Below.trans h1 (hb.mono (by omega)), h2.below hb (by omega), h3.below hb (by omega)⟩
  case hIx => intro c k u A B h; exact h.elim
  case hIb => rintro k u A ⟨rfl, _⟩ b hb; exact hb.elim
  case hIxb => intro c k u A h; exact h.elim
  case hround =>
    rintro l k u x X hx hl hr hul ⟨rfl, hk, h1, h2, h3⟩
    have HX := Lib.hid (And.intro h1 (And.intro h2 h3))
    clear h1 h2 h3 hz
    rcases k with _ | _ | _ | _ | k
    · simp only [numXs, List.getElem?_cons_zero, Option.some.injEq] at hx
      subst hx
      gi_wp2
      have E2 := ext1 X (.cells #[.int .i64 1, .int .i64 60, .int .i64 1] 95)
      refine to_bodyU1 hl hul hr (KeepU.of_ext E2) ?_
      intro X1 hof hbl hub hlX hr1
      obtain ⟨h1, h2, h3⟩ := HX.out
      have hz := HZ.out
      have hzX : X1.heap.size = X.heap.size + 1 := by rw [hof.size]; simp
      have bF : Blk X1 X.heap.size #[.int .i64 1, .int .i64 60, .int .i64 1] 95 := (Blk.new X _ _).off hof (by omega)
      have hs := h1.size
      have bC : Blk X1 (w.heap.size + 1 + 1) (mkC (nstep m 0)) 78 := (h3.ext E2).below hbl (by omega)
      have bR : Blk X1 (w.heap.size + 1) (mkC zM) 23 := (h2.ext E2).below hbl (by omega)
      have hE : Ext w X1 := Below.trans (Ext.trans h1 E2) (hbl.mono (by omega))
      have c0 := bF.cell 0
      have c1 := bF.cell 1
      have c2 := bF.cell 2
      have p0 := bC.cell 0
      have f0 := bC.frozen 0
      simp only [mkC, nstep, List.getElem?_toArray, List.getElem?_cons_zero, List.getElem?_cons_succ] at c0 c1 c2 p0
      have HR := Lib.hid (And.intro bC (And.intro bR hE))
      clear HX hz hzX hs h1 h2 h3 hof hbl hub hr1 hr hul bF bC bR hE E2
      gi_wp2
      gi_region_with (gi_at_call 57; refine (CallsIn.inRound l (callsIn_wide.2 (fnear_is _ _ _ _ _))).mono ?_; rintro e w' ⟨rfl, hw'⟩; have f0' := (HR.out.1.drew.ext hw').frozen 0; have p0' := (HR.out.1.drew.ext hw').cell 0; simp only [mkC, nstep, List.getElem?_toArray, List.getElem?_cons_zero] at p0'; have HW := Lib.hid hw'; clear hw')
      all_goals
        gi_wp2
        have hz := HZ.out
        obtain ⟨bC, bR, hE⟩ := HR.out
        have hw := HW.out
        refine ⟨(KeepU.of_ext (Ext.refl X1).drew).trans (u' := fun _ => False) ((KeepU.of_ext hw).setLow _ _ (by show w.heap.size + 1 + 1 < _; omega) (by show ¬ w.heap.size + 1 + 1 = _; omega)) (fun b hb => hb.elim), fun _ => False, fun b hb => hb.elim, rfl, by omega, ?_, ?_, ?_⟩
        · exact (Ext.trans hE.drew hw).setCell (p := ⟨w.heap.size + 1 + 1, 0, none⟩) (by show w.heap.size ≤ w.heap.size + 1 + 1; omega) _
        · exact (bR.drew.ext hw).other _ _ (by show w.heap.size + 1 ≠ w.heap.size + 1 + 1; omega)
        · exact (bC.drew.ext hw).set 0 _
    · simp only [numXs, List.getElem?_cons_zero, List.getElem?_cons_succ, Option.some.injEq] at hx
      subst hx
      gi_wp2
      have E2 := ext1 X (.cells #[.int .i64 1, .int .i64 3, .int .i64 1] 95)
      refine to_bodyU1 hl hul hr (KeepU.of_ext E2) ?_
      intro X1 hof hbl hub hlX hr1
      obtain ⟨h1, h2, h3⟩ := HX.out
      have hz := HZ.out
      have hzX : X1.heap.size = X.heap.size + 1 := by rw [hof.size]; simp
      have bF : Blk X1 X.heap.size #[.int .i64 1, .int .i64 3, .int .i64 1] 95 := (Blk.new X _ _).off hof (by omega)
      have hs := h1.size
      have bC : Blk X1 (w.heap.size + 1 + 1) (mkC (nstep m 1)) 78 := (h3.ext E2).below hbl (by omega)
      have bR : Blk X1 (w.heap.size + 1) (mkC zM) 23 := (h2.ext E2).below hbl (by omega)
      have hE : Ext w X1 := Below.trans (Ext.trans h1 E2) (hbl.mono (by omega))
      have c0 := bF.cell 0
      have c1 := bF.cell 1
      have c2 := bF.cell 2
      have p0 := bC.cell 2
      have f0 := bC.frozen 2
      simp only [mkC, nstep, List.getElem?_toArray, List.getElem?_cons_zero, List.getElem?_cons_succ] at c0 c1 c2 p0
      have HR := Lib.hid (And.intro bC (And.intro bR hE))
      clear HX hz hzX hs h1 h2 h3 hof hbl hub hr1 hr hul bF bC bR hE E2
      gi_wp2
      gi_region_with (gi_at_call 57; refine (CallsIn.inRound l (callsIn_wide.2 (fnear_is _ _ _ _ _))).mono ?_; rintro e w' ⟨rfl, hw'⟩; have f0' := (HR.out.1.drew.ext hw').frozen 2; have p0' := (HR.out.1.drew.ext hw').cell 2; simp only [mkC, nstep, List.getElem?_toArray, List.getElem?_cons_zero, List.getElem?_cons_succ] at p0'; have HW := Lib.hid hw'; clear hw')
      all_goals
        gi_wp2
        have hz := HZ.out
        obtain ⟨bC, bR, hE⟩ := HR.out
        have hw := HW.out
        refine ⟨(KeepU.of_ext (Ext.refl X1).drew).trans (u' := fun _ => False) ((KeepU.of_ext hw).setLow _ _ (by show w.heap.size + 1 + 1 < _; omega) (by show ¬ w.heap.size + 1 + 1 = _; omega)) (fun b hb => hb.elim), fun _ => False, fun b hb => hb.elim, rfl, by omega, ?_, ?_, ?_⟩
        · exact (Ext.trans hE.drew hw).setCell (p := ⟨w.heap.size + 1 + 1, 2, none⟩) (by show w.heap.size ≤ w.heap.size + 1 + 1; omega) _
        · exact (bR.drew.ext hw).other _ _ (by show w.heap.size + 1 ≠ w.heap.size + 1 + 1; omega)
        · exact (bC.drew.ext hw).set 2 _
    · simp only [numXs, List.getElem?_cons_zero, List.getElem?_cons_succ, Option.some.injEq] at hx
      subst hx
      gi_wp2
      have E2 := ext1 X (.cells #[.int .i64 0, .int .i64 255, .int .i64 1] 95)
      refine to_bodyU1 hl hul hr (KeepU.of_ext E2) ?_
      intro X1 hof hbl hub hlX hr1
      obtain ⟨h1, h2, h3⟩ := HX.out
      have hz := HZ.out
      have hzX : X1.heap.size = X.heap.size + 1 := by rw [hof.size]; simp
      have bF : Blk X1 X.heap.size #[.int .i64 0, .int .i64 255, .int .i64 1] 95 := (Blk.new X _ _).off hof (by omega)
      have hs := h1.size
      have bC : Blk X1 (w.heap.size + 1 + 1) (mkC (nstep m 2)) 78 := (h3.ext E2).below hbl (by omega)
      have bR : Blk X1 (w.heap.size + 1) (mkC zM) 23 := (h2.ext E2).below hbl (by omega)
      have hE : Ext w X1 := Below.trans (Ext.trans h1 E2) (hbl.mono (by omega))
      have c0 := bF.cell 0
      have c1 := bF.cell 1
      have c2 := bF.cell 2
      have p0 := bC.cell 3
      have f0 := bC.frozen 3
      simp only [mkC, nstep, List.getElem?_toArray, List.getElem?_cons_zero, List.getElem?_cons_succ] at c0 c1 c2 p0
      have HR := Lib.hid (And.intro bC (And.intro bR hE))
      clear HX hz hzX hs h1 h2 h3 hof hbl hub hr1 hr hul bF bC bR hE E2
      gi_wp2
      gi_region_with (gi_at_call 57; refine (CallsIn.inRound l (callsIn_wide.2 (fnear_is _ _ _ _ _))).mono ?_; rintro e w' ⟨rfl, hw'⟩; have f0' := (HR.out.1.drew.ext hw').frozen 3; have p0' := (HR.out.1.drew.ext hw').cell 3; simp only [mkC, nstep, List.getElem?_toArray, List.getElem?_cons_zero, List.getElem?_cons_succ] at p0'; have HW := Lib.hid hw'; clear hw')
      all_goals
        gi_wp2
        have hz := HZ.out
        obtain ⟨bC, bR, hE⟩ := HR.out
        have hw := HW.out
        refine ⟨(KeepU.of_ext (Ext.refl X1).drew).trans (u' := fun _ => False) ((KeepU.of_ext hw).setLow _ _ (by show w.heap.size + 1 + 1 < _; omega) (by show ¬ w.heap.size + 1 + 1 = _; omega)) (fun b hb => hb.elim), fun _ => False, fun b hb => hb.elim, rfl, by omega, ?_, ?_, ?_⟩
        · exact (Ext.trans hE.drew hw).setCell (p := ⟨w.heap.size + 1 + 1, 3, none⟩) (by show w.heap.size ≤ w.heap.size + 1 + 1; omega) _
        · exact (bR.drew.ext hw).other _ _ (by show w.heap.size + 1 ≠ w.heap.size + 1 + 1; omega)
        · exact (bC.drew.ext hw).set 3 _
    · simp only [numXs, List.getElem?_cons_zero, List.getElem?_cons_succ, Option.some.injEq] at hx
      subst hx
      gi_wp2
      have E2 := ext1 X (.cells #[.int .i64 0, .int .i64 40000, .int .i64 3] 95)
      refine to_bodyU1 hl hul hr (KeepU.of_ext E2) ?_
      intro X1 hof hbl hub hlX hr1
      obtain ⟨h1, h2, h3⟩ := HX.out
      have hz := HZ.out
      have hzX : X1.heap.size = X.heap.size + 1 := by rw [hof.size]; simp
      have bF : Blk X1 X.heap.size #[.int .i64 0, .int .i64 40000, .int .i64 3] 95 := (Blk.new X _ _).off hof (by omega)
      have hs := h1.size
      have bC : Blk X1 (w.heap.size + 1 + 1) (mkC (nstep m 3)) 78 := (h3.ext E2).below hbl (by omega)
      have bR : Blk X1 (w.heap.size + 1) (mkC zM) 23 := (h2.ext E2).below hbl (by omega)
      have hE : Ext w X1 := Below.trans (Ext.trans h1 E2) (hbl.mono (by omega))
      have c0 := bF.cell 0
      have c1 := bF.cell 1
      have c2 := bF.cell 2
      have p0 := bC.cell 1
      have f0 := bC.frozen 1
      simp only [mkC, nstep, List.getElem?_toArray, List.getElem?_cons_zero, List.getElem?_cons_succ] at c0 c1 c2 p0
      have HR := Lib.hid (And.intro bC (And.intro bR hE))
      clear HX hz hzX hs h1 h2 h3 hof hbl hub hr1 hr hul bF bC bR hE E2
      gi_wp2
      gi_region_with (gi_at_call 57; refine (CallsIn.inRound l (callsIn_wide.2 (fnear_is _ _ _ _ _))).mono ?_; rintro e w' ⟨rfl, hw'⟩; have f0' := (HR.out.1.drew.ext hw').frozen 1; have p0' := (HR.out.1.drew.ext hw').cell 1; simp only [mkC, nstep, List.getElem?_toArray, List.getElem?_cons_zero, List.getElem?_cons_succ] at p0'; have HW := Lib.hid hw'; clear hw')
      all_goals
        gi_wp2
        have hz := HZ.out
        obtain ⟨bC, bR, hE⟩ := HR.out
        have hw := HW.out
        refine ⟨(KeepU.of_ext (Ext.refl X1).drew).trans (u' := fun _ => False) ((KeepU.of_ext hw).setLow _ _ (by show w.heap.size + 1 + 1 < _; omega) (by show ¬ w.heap.size + 1 + 1 = _; omega)) (fun b hb => hb.elim), fun _ => False, fun b hb => hb.elim, rfl, by omega, ?_, ?_, ?_⟩
        · exact (Ext.trans hE.drew hw).setCell (p := ⟨w.heap.size + 1 + 1, 1, none⟩) (by show w.heap.size ≤ w.heap.size + 1 + 1; omega) _
        · exact (bR.drew.ext hw).other _ _ (by show w.heap.size + 1 ≠ w.heap.size + 1 + 1; omega)
        · exact (bC.drew.ext hw).set 1 _
    · simp [numXs] at hx
  case hdone =>
    rintro K u X hK hKu ⟨rfl, hk, h1, h2, h3⟩ hKd
    rw [show nstep m (numXs (w.heap.size + 1 + 1)).length = nearM m from rfl] at h3
    have p0 := h3.cell 0
    have p1 := h3.cell 1
    have p2 := h3.cell 2
    have p3 := h3.cell 3
    have q0 := h2.cell 0
    have q1 := h2.cell 1
    have q2 := h2.cell 2
    have q3 := h2.cell 3
    have f0 := h2.frozen 0
    have f1 := h2.frozen 1
    have f2 := h2.frozen 2
    have f3 := h2.frozen 3
    simp only [mkC, List.getElem?_toArray, List.getElem?_cons_zero, List.getElem?_cons_succ] at p0 p1 p2 p3 q0 q1 q2 q3
    have hHE := Lib.hid (And.intro h1 (And.intro h2 hKd))
    clear h1 h2 h3 hKd hz
    obtain ⟨M, hM⟩ : ∃ M, nearM m = M := ⟨_, rfl⟩
    rw [hM] at p0 p1 p2 p3
    go_wp2
    obtain ⟨h1, h2, hKd⟩ := hHE.out
    have hz := HZ.out
    have b4 := set4 (v0 := .int .i64 M.kind) (v1 := .int .i64 M.len) (v2 := .int .i64 M.cls) (v3 := .int .i64 M.ep) h2
    have E4 := ext_set4 (v0 := .int .i64 M.kind) (v1 := .int .i64 M.len) (v2 := .int .i64 M.cls) (v3 := .int .i64 M.ep) h1 (B := w.heap.size + 1) (by omega)
    have hK4 := (heap_set4 X (w.heap.size + 1) K (.int .i64 M.kind) (.int .i64 M.len) (.int .i64 M.cls) (.int .i64 M.ep) (by omega)).trans hKd
    generalize (((X.setCell ⟨w.heap.size + 1, 0, none⟩ (.int .i64 M.kind)).setCell ⟨w.heap.size + 1, 1, none⟩ (.int .i64 M.len)).setCell ⟨w.heap.size + 1, 2, none⟩ (.int .i64 M.cls)).setCell ⟨w.heap.size + 1, 3, none⟩ (.int .i64 M.ep) = W4 at *
    have b5 := b4.putObj K (.deferred none) (by omega)
    have s0 := b5.cell 0
    have s1 := b5.cell 1
    have s2 := b5.cell 2
    have s3 := b5.cell 3
    simp only [List.getElem?_toArray, List.getElem?_cons_zero, List.getElem?_cons_succ] at s0 s1 s2 s3
    exact leave_mark (v := mkV M) hK4 (by simp [results, Tryd.results48, go_sem, s0, s1, s2, s3]) ⟨by first | rfl | rw [hM], Below.trans E4 (below_putObj W4 K w.heap.size _ (by omega))⟩
  case hstop => intro K c k u W _ _ _ h; exact h.elim
end
end H
end Go.Proofs.YtfpefffgegphnaaDoor
