/- Joined texts, in their order: ParseR. -/
import Derived.Test.YtopgbggighaknaaGreatDoorM11
import Derived.Test.YtopgbggighaknaaGreatDoorM06
import Derived.Test.YtopgbggighaknaaGreatDoorM03
/- selionref04: Parse: what it answers, and what is read at the first ';' (its walk is still to do). selionref04: Parse. -/
namespace Go.Proofs.YtopgbggighaknaaGreatDoor
open Go.RowKit Go
theorem cutAt_none : ∀ (s : List UInt8), (∀ c ∈ s, c ≠ 59) → cutAt s = none
  | [], _ => rfl
  | c :: s, h => by
    have h1 : ¬ c = 59 := h c (by simp)
    simp [cutAt, h1, cutAt_none s (fun c' hc => h c' (by simp [hc]))]
theorem cutAt_at (s : List UInt8) (k : Nat) (hk : k < s.length) (h : ∀ c ∈ s.take k, c ≠ 59) (h59 : s.getD k 0 = 59) : cutAt s = some (s.take k, s.drop k) := by
  have e : s.drop k = 59 :: s.drop (k + 1) := by
    rw [List.drop_eq_getElem_cons hk, ← h59, List.getD_eq_getElem?_getD, List.getElem?_eq_getElem hk]; rfl
  have e2 : s = s.take k ++ 59 :: s.drop (k + 1) := by rw [← e]; exact (List.take_append_drop k s).symm
  conv => lhs; rw [e2]
  rw [cutAt_of _ _ h, e]
theorem no59_succ (s : List UInt8) (k : Nat) (hk : k < s.length) (h : ∀ c ∈ s.take k, c ≠ 59) (h59 : s.getD k 0 ≠ 59) : ∀ c ∈ s.take (k + 1), c ≠ 59 := by
  intro c hc
  rw [List.take_add_one, List.getElem?_eq_getElem hk] at hc
  rcases List.mem_append.1 hc with hc | hc
  · exact h c hc
  · simp at hc
    rw [hc]
    rwa [List.getD_eq_getElem?_getD, List.getElem?_eq_getElem hk] at h59
theorem parseP_no (s : List UInt8) (h : ∀ c ∈ s, c ≠ 59) : parseP s = none := by unfold parseP; rw [cutAt_none s h]
/-- What is read at the first ';'. -/
theorem parseP_at (s : List UInt8) (k : Nat) (hk : k < s.length) (h : ∀ c ∈ s.take k, c ≠ 59) (h59 : s.getD k 0 = 59) :
    parseP s = match nums (s.take k), nums (s.drop k) with
      | x :: xs, y :: ys => if rightB ⟨x, xs.map Int.ofNat, y, ys.map Int.ofNat⟩ && textS ⟨x, xs.map Int.ofNat, y, ys.map Int.ofNat⟩ == s then some ⟨x, xs.map Int.ofNat, y, ys.map Int.ofNat⟩ else none
      | _, _ => none := by
  unfold parseP
  rw [cutAt_at s k hk h h59]
  rfl
/-- What Parse answers. -/
def ParseR (w : World) (s : List UInt8) (e : Ending) (w' : World) : Prop :=
  match parseP s with
  | none => e = .returned (.tuple #[.agg #[.int .i64 0, .slice none 0 0, .int .i64 0, .slice none 0 0], .int .i64 40]) ∧ Ext w w'
  | some d => ∃ A c B c', e = .returned (.tuple #[.agg #[.int .i64 d.size, .slice A d.ptrs.length c, .int .i64 d.elem, .slice B d.eptrs.length c'], .int .i64 0]) ∧
      d.ptrs.length ≤ c ∧ d.eptrs.length ≤ c' ∧ c ≤ maxLen ∧ c' ≤ maxLen ∧ Il w' A d.ptrs.length d.ptrs ∧ Il w' B d.eptrs.length d.eptrs ∧ (∀ ad, A = some ad → w.heap.size ≤ ad.block) ∧ (∀ ad, B = some ad → w.heap.size ≤ ad.block) ∧ Ext w w'
theorem ext_take (s : List UInt8) (k : Nat) : (ByteArray.mk s.toArray).extract 0 k = ⟨(s.take k).toArray⟩ := by apply ByteArray.ext; rw [ByteArray.data_extract]; simp
theorem ext_drop (s : List UInt8) (k : Nat) : (ByteArray.mk s.toArray).extract k (ByteArray.mk s.toArray).size = ⟨(s.drop k).toArray⟩ := by
  apply ByteArray.ext; rw [ByteArray.data_extract, show (ByteArray.mk s.toArray).size = s.length by show s.toArray.size = _; simp]
  simp
  exact List.take_of_length_le (by simp)
theorem il_tail {W : World} {ad : Addr} {n : Nat} {v : Int} {l : List Int} (h : Il W (some ad) (n + 1) (v :: l)) : Il W (some (ad.add 1)) n l := by
  refine ⟨by have := h.1; simpa using this, fun hn => ?_⟩
  obtain ⟨ad', e, hb, hc⟩ := h.2 (by omega)
  cases e
  refine ⟨_, rfl, by rw [block_of_add]; exact hb, fun j hj => ?_⟩
  rw [add_of_add, show 1 + j = j + 1 by omega, hc (j + 1) (by omega)]
  rfl
theorem ba_inj {a b : ByteArray} (h : a.toList = b.toList) : a = b := by
  rw [ByteArray.toList_eq, ByteArray.toList_eq] at h
  apply ByteArray.ext
  exact Array.toList_inj.1 h
theorem add_one (ad : Addr) : ad.add 1 = ⟨ad.block, ad.off + 1, none⟩ := by simp [Addr.add]
theorem il_head {W : World} {A : Option Addr} {n : Nat} {v : Int} {l : List Int} (h : Il W A (n + 1) (v :: l)) : ∃ ad, A = some ad ∧ W.cell? ad = some (.int .i64 v) := by
  obtain ⟨ad, e, hb, hc⟩ := h.2 (by omega)
  refine ⟨ad, e, ?_⟩
  have := hc 0 (by omega)
  simpa [Addr.add] using this
theorem nums_len (s : List UInt8) : (nums s).length ≤ s.length := by
  have := (stN_ok s s.length (Nat.le_refl _)).len
  rwa [stN_end s s.length (Nat.le_refl _)] at this
section
set_option maxHeartbeats 4000000 in
set_option maxRecDepth 100000 in
theorem parse_is (X : ByteArray) (s : List UInt8) (hs : X = ⟨s.toArray⟩) (hn : X.size ≤ 1000) (w : World) :
    Calls Tryz.prog 45 #[.string X] w (ParseR w s) := by
  have hX : X.size = s.length := by subst hs; show s.toArray.size = _; simp
  have hget : ∀ k (h : k < X.size), X[k] = s.getD k 0 := by
    subst hs; intro k h
    rw [List.getD_eq_getElem?_getD, List.getElem?_eq_getElem (by rw [← hX]; exact h)]; rfl
  have hex1 : ∀ k, X.extract 0 k = ⟨(s.take k).toArray⟩ := by subst hs; exact ext_take s
  have hex2 : ∀ k, X.extract k X.size = ⟨(s.drop k).toArray⟩ := by subst hs; exact ext_drop s
  have HX := Lib.hid (And.intro hX (And.intro hget (And.intro hex1 (And.intro hex2 hs))))
  clear hX hget hex1 hex2 hs
  go_enter Tryz.func45, Tryz.ntmps45
  go_wp2
  go_loopg [4] X.size (fun m i wr => ∃ k : Nat, k + m = X.size ∧ i = .int .i64 k ∧ (∀ c ∈ s.take k, c ≠ 59) ∧ wr = w.alloc (.cells #[.int .i64 0, .slice none 0 0, .int .i64 0, .slice none 0 0] 25))
  case atStart => exact ⟨0, by omega, rfl, by simp, rfl⟩
  case round =>
    obtain ⟨k, hk, rfl, hno, rfl⟩ := hrel
    by_cases hlt : k < X.size
    · have h5 : (k : Int) < X.size := by omega
      have h6 : (k : Int) + 1 ≤ 1000000 := by omega
      have hks : k < s.length := by rw [← HX.out.1]; exact hlt
      have hg := HX.out.2.1 k hlt
      by_cases h59 : X[k].toNat = 59
      · have hp := parseP_at s k hks hno (by rw [← hg]; exact UInt8.toNat_inj.1 h59)
        have b1 : ((X[k].toNat : Int) != 59) = false := by rw [h59]; rfl
        have b2 : (X[k].toNat != 59) = false := by rw [h59]; rfl
        have b3 : ((X[k].toNat : Int) == 59) = true := by rw [h59]; rfl
        have sz1 : (X.extract 0 k).size ≤ 1000 := by rw [ByteArray.size_extract]; omega
        have sz2 : (X.extract k X.size).size ≤ 1000 := by rw [ByteArray.size_extract]; omega
        have RA := Lib.hid (fun W => numbers_is (X.extract 0 k) (s.take k) (HX.out.2.2.1 k) sz1 W)
        have RB := Lib.hid (fun W => numbers_is (X.extract k X.size) (s.drop k) (HX.out.2.2.2.1 k) sz2 W)
        unfold NumsR at RA RB
        rcases hu : nums (s.take k) with _ | ⟨x, xs⟩
        · rw [hu] at hp
          rw [hu, List.length_nil] at RA
          generalize hnb : (nums (s.drop k)).length = nb at RB
          clear hnb
          have HP := Lib.hid (show parseP s = none from hp)
          clear hno hk hg hks h59 hp hu sz1 sz2
          go_wp2_with (first | (go_at_call 59; with_reducible refine (RA.out _).mono ?_; rintro e w1 ⟨A, c, rfl, hc1, hc2, hcn, hil, k1⟩; have HA := Lib.hid (And.intro hc1 (And.intro hc2 (And.intro hcn (And.intro hil k1)))); clear hc1 hc2 hcn hil k1) | (go_at_call 59; with_reducible refine (RB.out _).mono ?_; rintro e w2 ⟨B, c', rfl, hc1, hc2, hcn, hil, k1⟩; have e2 := Ext.trans HA.out.2.2.2.2 k1; have p0 := (at_new e2).cell 0; have p1 := (at_new e2).cell 1; have p2 := (at_new e2).cell 2; have p3 := (at_new e2).cell 3; have q0 := (at_new e2).frozen 0; have q1 := (at_new e2).frozen 1; have q2 := (at_new e2).frozen 2; have q3 := (at_new e2).frozen 3; simp at p0 p1 p2 p3; have HB := Lib.hid (And.intro hc1 (And.intro hc2 (And.intro hcn (And.intro hil (And.intro k1 e2))))); clear hc1 hc2 hcn hil k1 e2))
          have e2 := HB.out.2.2.2.2.2
          obtain ⟨s0, s1, s2, s3, hE⟩ := res_store4 (w := w) (u0 := .int .i64 0) (u1 := .slice none 0 0) (u2 := .int .i64 0) (u3 := .slice none 0 0) (at_new e2) (Ext.trans (ext1 _ _) e2) (Nat.le_refl _)
          exact bodyPost_ret (v := .tuple #[.agg #[.int .i64 0, .slice none 0 0, .int .i64 0, .slice none 0 0], .int .i64 40]) (by simp [results, Tryz.results45, go_sem, s0, s1, s2, s3]) rfl (by unfold ParseR; rw [HP.out]; exact ⟨rfl, hE⟩)
        · generalize hna : (nums (s.take k)).length = na at RA
          obtain ⟨na, rfl⟩ : ∃ j, na = j + 1 := ⟨na - 1, by rw [hu] at hna; simp at hna; omega⟩
          have z1 : (((na + 1 : Nat) : Int) == 0) = false := by rw [beq_eq_false_iff_ne]; omega
          have z2 : ((na : Int) + 1 == 0) = false := by rw [beq_eq_false_iff_ne]; omega
          have z3 : (na + 1 == 0) = false := by rw [beq_eq_false_iff_ne]; omega
          rcases hv : nums (s.drop k) with _ | ⟨y, ys⟩
          · rw [hu, hv] at hp
            have HP := Lib.hid (show parseP s = none from hp)
            rw [hv, List.length_nil] at RB
            clear hno hk hg hks h59 hp hu hv sz1 sz2 hna
            go_wp2_with (first | (go_at_call 59; with_reducible refine (RA.out _).mono ?_; rintro e w1 ⟨A, c, rfl, hc1, hc2, hcn, hil, k1⟩; have HA := Lib.hid (And.intro hc1 (And.intro hc2 (And.intro hcn (And.intro hil k1)))); clear hc1 hc2 hcn hil k1) | (go_at_call 59; with_reducible refine (RB.out _).mono ?_; rintro e w2 ⟨B, c', rfl, hc1, hc2, hcn, hil, k1⟩; have e2 := Ext.trans HA.out.2.2.2.2 k1; have p0 := (at_new e2).cell 0; have p1 := (at_new e2).cell 1; have p2 := (at_new e2).cell 2; have p3 := (at_new e2).cell 3; have q0 := (at_new e2).frozen 0; have q1 := (at_new e2).frozen 1; have q2 := (at_new e2).frozen 2; have q3 := (at_new e2).frozen 3; simp at p0 p1 p2 p3; have HB := Lib.hid (And.intro hc1 (And.intro hc2 (And.intro hcn (And.intro hil (And.intro k1 e2))))); clear hc1 hc2 hcn hil k1 e2))
            have e2 := HB.out.2.2.2.2.2
            obtain ⟨s0, s1, s2, s3, hE⟩ := res_store4 (w := w) (u0 := .int .i64 0) (u1 := .slice none 0 0) (u2 := .int .i64 0) (u3 := .slice none 0 0) (at_new e2) (Ext.trans (ext1 _ _) e2) (Nat.le_refl _)
            exact bodyPost_ret (v := .tuple #[.agg #[.int .i64 0, .slice none 0 0, .int .i64 0, .slice none 0 0], .int .i64 40]) (by simp [results, Tryz.results45, go_sem, s0, s1, s2, s3]) rfl (by unfold ParseR; rw [HP.out]; exact ⟨rfl, hE⟩)
          · have hnl := nums_len (s.drop k)
            have hnl2 := nums_len (s.take k)
            generalize hnb : (nums (s.drop k)).length = nb at RB
            obtain ⟨nb, rfl⟩ : ∃ j, nb = j + 1 := ⟨nb - 1, by rw [hv] at hnb; simp at hnb; omega⟩
            have y1 : (((nb + 1 : Nat) : Int) == 0) = false := by rw [beq_eq_false_iff_ne]; omega
            have y2 : ((nb : Int) + 1 == 0) = false := by rw [beq_eq_false_iff_ne]; omega
            have y3 : (nb + 1 == 0) = false := by rw [beq_eq_false_iff_ne]; omega
            have bna : na ≤ 1000 := by have := HX.out.1; simp at hnl2; omega
            have bnb : nb ≤ 1000 := by have := HX.out.1; simp at hnl; omega
            rw [hu] at RA
            rw [hv] at RB
            rw [List.map_cons] at RA RB
            rw [hu, hv] at hp
            simp only at hp
            have HP := Lib.hid hp
            clear hno hk hg hks h59 hp hu hv sz1 sz2 hna hnb hnl hnl2
            go_wp2_with (first | (go_at_call 59; with_reducible refine (RA.out _).mono ?_; rintro e w1 ⟨A, c, rfl, hc1, hc2, hcn, hil, k1⟩; have HA := Lib.hid (And.intro hc1 (And.intro hc2 (And.intro hcn (And.intro hil k1)))); clear hc1 hc2 hcn hil k1) | (go_at_call 59; with_reducible refine (RB.out _).mono ?_; rintro e w2 ⟨B, c', rfl, hc1, hc2, hcn, hil, k1⟩; have e2 := Ext.trans HA.out.2.2.2.2 k1; have p0 := (at_new e2).cell 0; have p1 := (at_new e2).cell 1; have p2 := (at_new e2).cell 2; have p3 := (at_new e2).cell 3; have q0 := (at_new e2).frozen 0; have q1 := (at_new e2).frozen 1; have q2 := (at_new e2).frozen 2; have q3 := (at_new e2).frozen 3; simp at p0 p1 p2 p3; have HB := Lib.hid (And.intro hc1 (And.intro hc2 (And.intro hcn (And.intro hil (And.intro k1 e2))))); clear hc1 hc2 hcn hil k1 e2))
            obtain ⟨ad, rfl, ca⟩ := il_head (HA.out.2.2.2.1.ext HB.out.2.2.2.2.1)
            obtain ⟨bd, rfl, cb⟩ := il_head HB.out.2.2.2.1
            replace ca : w2.cell? ad = some (.int .i64 ((x : Nat) : Int)) := ca
            replace cb : w2.cell? bd = some (.int .i64 ((y : Nat) : Int)) := cb
            have g1 : (na : Int) + 1 ≤ c := by have := HA.out.1; omega
            have g2 : (nb : Int) + 1 ≤ c' := by have := HB.out.1; omega
            have g3 : na + 1 ≤ c := HA.out.1
            have g4 : nb + 1 ≤ c' := HB.out.1
            have TA0 := Lib.hid (fun W (h : Ext w2 W) => il_tail (HA.out.2.2.2.1.ext (Ext.trans HB.out.2.2.2.2.1 h)))
            have TB0 := Lib.hid (fun W (h : Ext w2 W) => il_tail (HB.out.2.2.2.1.ext h))
            rw [add_one] at TA0 TB0
            rcases Nat.eq_or_lt_of_le (show 1 ≤ c by omega) with hc | hc
            · subst hc
              obtain rfl : na = 0 := by omega
              rcases Nat.eq_or_lt_of_le (show 1 ≤ c' by omega) with hc' | hc'
              · subst hc'
                obtain rfl : nb = 0 := by omega
                have TA := Lib.hid (fun W (h : Ext w2 W) => (⟨(TA0.out W h).1, fun hn => absurd hn (by omega)⟩ : Il W (some ad) 0 (xs.map Int.ofNat)))
                have TB := Lib.hid (fun W (h : Ext w2 W) => (⟨(TB0.out W h).1, fun hn => absurd hn (by omega)⟩ : Il W (some bd) 0 (ys.map Int.ofNat)))
                clear TA0 TB0
                refine wp_region_XT 13 12 rfl (by kernel_rfl) (by kernel_rfl) ?_
                intro HD
                refine wpH_segL HD 0 11 1 rfl rfl (by kernel_rfl) ?_
                apply Exists.intro
                refine ⟨fun d => ?_, ?_⟩
                · have Ca := fun (o : From d.w) => (From.cell2 d.h o ad (by rw [ca]; rfl)).trans ca
                  have Cb := fun (o : From d.w) => (From.cell2 d.h o bd (by rw [cb]; rfl)).trans cb
                  simp only [List.drop_zero, List.take_succ_cons, List.take_zero]
                  repeat (go_big_quiet_step (fail))
                  exact wpQuiet_nil rfl
                refine wpH_stepL 11 0 rfl rfl rfl (by kernel_rfl) ?_
                intro W3 hW3 K hK
                go_simp
                refine hK.out _ _ (ext1 _ _) ?_
                clear hK K
                refine wpH_end (fun W4 hW4 => ⟨by kernel_rfl, ?_⟩)
                have EX4 := Ext.trans hW3 (Ext.trans (ext1 _ _) hW4)
                have hR := hW3.size
                have EX := Lib.hid (res_store4 (w := w2) (u0 := .int .i64 (x : Nat)) (u1 := .slice (some ad) 0 0) (u2 := .int .i64 (y : Nat)) (u3 := .slice (some bd) 0 0) (at_new hW4) EX4 hR).2.2.2.2
                have HB4 := Lib.hid ((((((at_new hW4).set 0 (.int .i64 (x : Nat))).set 1 (.slice (some ad) 0 0)).set 2 (.int .i64 (y : Nat))).set 3 (.slice (some bd) 0 0)))
                have r0 := (at_new hW4).cell 0
                have r1 := (at_new hW4).cell 1
                have r2 := (at_new hW4).cell 2
                have r3 := (at_new hW4).cell 3
                have q0 := (at_new hW4).frozen 0
                have q1 := (at_new hW4).frozen 1
                have q2 := (at_new hW4).frozen 2
                have q3 := (at_new hW4).frozen 3
                simp at r0 r1 r2 r3
                have XW := HB.out.2.2.2.2.2
                have RP := Lib.hid (fun W (h : Ext w2 W) => print_is (some ad) (some bd) 0 0 0 0 (x : Nat) (y : Nat) (xs.map Int.ofNat) (ys.map Int.ofNat) bna bnb W (TA.out W h) (TB.out W h))
                clear hW3 hW4 EX4 hR p0 p1 p2 p3 ca cb
                simp only [List.drop_succ_cons, List.drop_zero]
                cases hr : rightB ⟨(x : Nat), xs.map Int.ofNat, (y : Nat), ys.map Int.ofNat⟩
                · have HN := Lib.hid (show parseP s = none by rw [HP.out, hr]; rfl)
                  rw [show textV ⟨(x : Nat), xs.map Int.ofNat, (y : Nat), ys.map Int.ofNat⟩ = [] by rw [textV, hr]; rfl, show textE ⟨(x : Nat), xs.map Int.ofNat, (y : Nat), ys.map Int.ofNat⟩ = 40 by rw [textE, hr]; rfl] at RP
                  clear hr
                  unfold sv at RP
                  go_wp2_with ((go_at_call 43; with_reducible refine (RP.out _ EX.out).mono ?_; rintro e w5 ⟨rfl, k5⟩; have e5 := Ext.trans XW (Ext.trans EX.out k5); have p0 := (at_new e5).cell 0; have p1 := (at_new e5).cell 1; have p2 := (at_new e5).cell 2; have p3 := (at_new e5).cell 3; have q0 := (at_new e5).frozen 0; have q1 := (at_new e5).frozen 1; have q2 := (at_new e5).frozen 2; have q3 := (at_new e5).frozen 3; simp at p0 p1 p2 p3; have t0 := (HB4.out.ext k5).cell 0; have t1 := (HB4.out.ext k5).cell 1; have t2 := (HB4.out.ext k5).cell 2; have t3 := (HB4.out.ext k5).cell 3; simp at t0 t1 t2 t3; have H5 := Lib.hid (And.intro e5 k5); clear e5 k5))
                  obtain ⟨s0, s1, s2, s3, hE⟩ := res_store4 (w := w) (u0 := .int .i64 0) (u1 := .slice none 0 0) (u2 := .int .i64 0) (u3 := .slice none 0 0) (at_new H5.out.1) (Ext.trans (ext1 _ _) H5.out.1) (Nat.le_refl _)
                  exact bodyPost_ret (v := .tuple #[.agg #[.int .i64 0, .slice none 0 0, .int .i64 0, .slice none 0 0], .int .i64 40]) (by simp [results, Tryz.results45, go_sem, s0, s1, s2, s3]) rfl (by unfold ParseR; rw [HN.out]; exact ⟨rfl, hE⟩)
                · rw [show textV ⟨(x : Nat), xs.map Int.ofNat, (y : Nat), ys.map Int.ofNat⟩ = textS ⟨(x : Nat), xs.map Int.ofNat, (y : Nat), ys.map Int.ofNat⟩ by rw [textV, hr]; rfl, show textE ⟨(x : Nat), xs.map Int.ofNat, (y : Nat), ys.map Int.ofNat⟩ = 0 by rw [textE, hr]; rfl] at RP
                  unfold sv at RP
                  by_cases ht : textS ⟨(x : Nat), xs.map Int.ofNat, (y : Nat), ys.map Int.ofNat⟩ = s
                  · have HN := Lib.hid (show parseP s = some ⟨(x : Nat), xs.map Int.ofNat, (y : Nat), ys.map Int.ofNat⟩ by rw [HP.out, hr, ht]; simp)
                    rw [ht, ← HX.out.2.2.2.2] at RP
                    have l1 := (TA.out w2 (Ext.refl _)).1
                    have l2 := (TB.out w2 (Ext.refl _)).1
                    have HL := Lib.hid (And.intro l1 l2)
                    clear hr ht l1 l2
                    go_wp2_with ((go_at_call 43; with_reducible refine (RP.out _ EX.out).mono ?_; rintro e w5 ⟨rfl, k5⟩; have e5 := Ext.trans XW (Ext.trans EX.out k5); have p0 := (at_new e5).cell 0; have p1 := (at_new e5).cell 1; have p2 := (at_new e5).cell 2; have p3 := (at_new e5).cell 3; have q0 := (at_new e5).frozen 0; have q1 := (at_new e5).frozen 1; have q2 := (at_new e5).frozen 2; have q3 := (at_new e5).frozen 3; simp at p0 p1 p2 p3; have t0 := (HB4.out.ext k5).cell 0; have t1 := (HB4.out.ext k5).cell 1; have t2 := (HB4.out.ext k5).cell 2; have t3 := (HB4.out.ext k5).cell 3; simp at t0 t1 t2 t3; have H5 := Lib.hid (And.intro e5 k5); clear e5 k5))
                    obtain ⟨s0, s1, s2, s3, hE⟩ := res_store4 (w := w) (u0 := .int .i64 (x : Nat)) (u1 := .slice (some ad) 0 0) (u2 := .int .i64 (y : Nat)) (u3 := .slice (some bd) 0 0) (at_new H5.out.1) (Ext.trans (ext1 _ _) H5.out.1) (Nat.le_refl _)
                    refine bodyPost_ret (v := .tuple #[.agg #[.int .i64 (x : Nat), .slice (some ad) 0 0, .int .i64 (y : Nat), .slice (some bd) 0 0], .int .i64 0]) (by simp [results, Tryz.results45, go_sem, s0, s1, s2, s3]) rfl ?_
                    unfold ParseR
                    rw [HN.out]
                    obtain ⟨l1, l2⟩ := HL.out
                    have n1 := HA.out.2.2.1.2 ad rfl
                    have n2 := HB.out.2.2.1.2 bd rfl
                    have n3 := HA.out.2.2.2.2.size
                    simp at n1 n3
                    have keep : ∀ (p : Addr) (l : List Int) (n : Nat), p.block ≠ w.heap.size → Il w5 (some p) n l → ∀ u0 u1 u2 u3, Il ((((w5.setCell ⟨w.heap.size, 0, none⟩ u0).setCell ⟨w.heap.size, 1, none⟩ u1).setCell ⟨w.heap.size, 2, none⟩ u2).setCell ⟨w.heap.size, 3, none⟩ u3) (some p) n l := fun p l n hp h u0 u1 u2 u3 => ⟨h.1, h.2.keep (by simp [World.setCell]) (fun q hq _ => by
                      cases hq
                      rw [Below.heap_setCell _ _ _ _ hp, Below.heap_setCell _ _ _ _ hp, Below.heap_setCell _ _ _ _ hp, Below.heap_setCell _ _ _ _ hp])⟩
                    have L1 := TA.out w5 (Ext.trans EX.out H5.out.2)
                    have L2 := TB.out w5 (Ext.trans EX.out H5.out.2)
                    refine ⟨some ad, 0, some bd, 0, by rw [l1, l2], by rw [l1]; omega, by rw [l2]; omega, by have := HA.out.2.1; omega, by have := HB.out.2.1; omega, ?_, ?_, (fun a e => by cases e; show _ ≤ ad.block; omega), (fun a e => by cases e; show _ ≤ bd.block; omega), hE⟩
                    · rw [l1]; exact keep _ _ _ (by show ad.block ≠ w.heap.size; omega) L1 _ _ _ _
                    · rw [l2]; exact keep _ _ _ (by show bd.block ≠ w.heap.size; omega) L2 _ _ _ _
                  · have HN := Lib.hid (show parseP s = none by rw [HP.out, hr, show (textS ⟨(x : Nat), xs.map Int.ofNat, (y : Nat), ys.map Int.ofNat⟩ == s) = false by simpa using ht]; rfl)
                    have hne0 : ByteArray.mk (textS ⟨(x : Nat), xs.map Int.ofNat, (y : Nat), ys.map Int.ofNat⟩).toArray ≠ X := by
                      rw [HX.out.2.2.2.2]
                      intro h
                      exact ht (by have := congrArg (fun b => b.data.toList) h; simpa using this)
                    have hne : ((ByteArray.mk (textS ⟨(x : Nat), xs.map Int.ofNat, (y : Nat), ys.map Int.ofNat⟩).toArray).toList == X.toList) = false := by
                      rw [beq_eq_false_iff_ne]
                      intro h
                      exact hne0 (ba_inj h)
                    generalize ByteArray.mk (textS ⟨(x : Nat), xs.map Int.ofNat, (y : Nat), ys.map Int.ofNat⟩).toArray = P1 at *
                    clear hr ht
                    go_wp2_with ((go_at_call 43; with_reducible refine (RP.out _ EX.out).mono ?_; rintro e w5 ⟨rfl, k5⟩; have e5 := Ext.trans XW (Ext.trans EX.out k5); have p0 := (at_new e5).cell 0; have p1 := (at_new e5).cell 1; have p2 := (at_new e5).cell 2; have p3 := (at_new e5).cell 3; have q0 := (at_new e5).frozen 0; have q1 := (at_new e5).frozen 1; have q2 := (at_new e5).frozen 2; have q3 := (at_new e5).frozen 3; simp at p0 p1 p2 p3; have t0 := (HB4.out.ext k5).cell 0; have t1 := (HB4.out.ext k5).cell 1; have t2 := (HB4.out.ext k5).cell 2; have t3 := (HB4.out.ext k5).cell 3; simp at t0 t1 t2 t3; have H5 := Lib.hid (And.intro e5 k5); clear e5 k5))
                    obtain ⟨s0, s1, s2, s3, hE⟩ := res_store4 (w := w) (u0 := .int .i64 0) (u1 := .slice none 0 0) (u2 := .int .i64 0) (u3 := .slice none 0 0) (at_new H5.out.1) (Ext.trans (ext1 _ _) H5.out.1) (Nat.le_refl _)
                    exact bodyPost_ret (v := .tuple #[.agg #[.int .i64 0, .slice none 0 0, .int .i64 0, .slice none 0 0], .int .i64 40]) (by simp [results, Tryz.results45, go_sem, s0, s1, s2, s3]) rfl (by unfold ParseR; rw [HN.out]; exact ⟨rfl, hE⟩)
              · skip
                have TA := Lib.hid (fun W (h : Ext w2 W) => (⟨(TA0.out W h).1, fun hn => absurd hn (by omega)⟩ : Il W (some ad) 0 (xs.map Int.ofNat)))
                have i2 : ¬ c' = 1 := by omega
                have TB := TB0
                clear hc' TA0 TB0
                refine wp_region_XT 13 12 rfl (by kernel_rfl) (by kernel_rfl) ?_
                intro HD
                refine wpH_segL HD 0 11 1 rfl rfl (by kernel_rfl) ?_
                apply Exists.intro
                refine ⟨fun d => ?_, ?_⟩
                · have Ca := fun (o : From d.w) => (From.cell2 d.h o ad (by rw [ca]; rfl)).trans ca
                  have Cb := fun (o : From d.w) => (From.cell2 d.h o bd (by rw [cb]; rfl)).trans cb
                  simp only [List.drop_zero, List.take_succ_cons, List.take_zero]
                  repeat (go_big_quiet_step (fail))
                  exact wpQuiet_nil rfl
                refine wpH_stepL 11 0 rfl rfl rfl (by kernel_rfl) ?_
                intro W3 hW3 K hK
                go_simp
                refine hK.out _ _ (ext1 _ _) ?_
                clear hK K
                refine wpH_end (fun W4 hW4 => ⟨by kernel_rfl, ?_⟩)
                have EX4 := Ext.trans hW3 (Ext.trans (ext1 _ _) hW4)
                have hR := hW3.size
                have EX := Lib.hid (res_store4 (w := w2) (u0 := .int .i64 (x : Nat)) (u1 := .slice (some ad) 0 0) (u2 := .int .i64 (y : Nat)) (u3 := .slice (some ⟨bd.block, bd.off + 1, none⟩) nb (c' - 1)) (at_new hW4) EX4 hR).2.2.2.2
                have HB4 := Lib.hid ((((((at_new hW4).set 0 (.int .i64 (x : Nat))).set 1 (.slice (some ad) 0 0)).set 2 (.int .i64 (y : Nat))).set 3 (.slice (some ⟨bd.block, bd.off + 1, none⟩) nb (c' - 1))))
                have r0 := (at_new hW4).cell 0
                have r1 := (at_new hW4).cell 1
                have r2 := (at_new hW4).cell 2
                have r3 := (at_new hW4).cell 3
                have q0 := (at_new hW4).frozen 0
                have q1 := (at_new hW4).frozen 1
                have q2 := (at_new hW4).frozen 2
                have q3 := (at_new hW4).frozen 3
                simp at r0 r1 r2 r3
                have XW := HB.out.2.2.2.2.2
                have RP := Lib.hid (fun W (h : Ext w2 W) => print_is (some ad) (some ⟨bd.block, bd.off + 1, none⟩) 0 nb 0 (c' - 1) (x : Nat) (y : Nat) (xs.map Int.ofNat) (ys.map Int.ofNat) bna bnb W (TA.out W h) (TB.out W h))
                clear hW3 hW4 EX4 hR p0 p1 p2 p3 ca cb
                simp only [List.drop_succ_cons, List.drop_zero]
                cases hr : rightB ⟨(x : Nat), xs.map Int.ofNat, (y : Nat), ys.map Int.ofNat⟩
                · have HN := Lib.hid (show parseP s = none by rw [HP.out, hr]; rfl)
                  rw [show textV ⟨(x : Nat), xs.map Int.ofNat, (y : Nat), ys.map Int.ofNat⟩ = [] by rw [textV, hr]; rfl, show textE ⟨(x : Nat), xs.map Int.ofNat, (y : Nat), ys.map Int.ofNat⟩ = 40 by rw [textE, hr]; rfl] at RP
                  clear hr
                  unfold sv at RP
                  go_wp2_with ((go_at_call 43; with_reducible refine (RP.out _ EX.out).mono ?_; rintro e w5 ⟨rfl, k5⟩; have e5 := Ext.trans XW (Ext.trans EX.out k5); have p0 := (at_new e5).cell 0; have p1 := (at_new e5).cell 1; have p2 := (at_new e5).cell 2; have p3 := (at_new e5).cell 3; have q0 := (at_new e5).frozen 0; have q1 := (at_new e5).frozen 1; have q2 := (at_new e5).frozen 2; have q3 := (at_new e5).frozen 3; simp at p0 p1 p2 p3; have t0 := (HB4.out.ext k5).cell 0; have t1 := (HB4.out.ext k5).cell 1; have t2 := (HB4.out.ext k5).cell 2; have t3 := (HB4.out.ext k5).cell 3; simp at t0 t1 t2 t3; have H5 := Lib.hid (And.intro e5 k5); clear e5 k5))
                  obtain ⟨s0, s1, s2, s3, hE⟩ := res_store4 (w := w) (u0 := .int .i64 0) (u1 := .slice none 0 0) (u2 := .int .i64 0) (u3 := .slice none 0 0) (at_new H5.out.1) (Ext.trans (ext1 _ _) H5.out.1) (Nat.le_refl _)
                  exact bodyPost_ret (v := .tuple #[.agg #[.int .i64 0, .slice none 0 0, .int .i64 0, .slice none 0 0], .int .i64 40]) (by simp [results, Tryz.results45, go_sem, s0, s1, s2, s3]) rfl (by unfold ParseR; rw [HN.out]; exact ⟨rfl, hE⟩)
                · rw [show textV ⟨(x : Nat), xs.map Int.ofNat, (y : Nat), ys.map Int.ofNat⟩ = textS ⟨(x : Nat), xs.map Int.ofNat, (y : Nat), ys.map Int.ofNat⟩ by rw [textV, hr]; rfl, show textE ⟨(x : Nat), xs.map Int.ofNat, (y : Nat), ys.map Int.ofNat⟩ = 0 by rw [textE, hr]; rfl] at RP
                  unfold sv at RP
                  by_cases ht : textS ⟨(x : Nat), xs.map Int.ofNat, (y : Nat), ys.map Int.ofNat⟩ = s
                  · have HN := Lib.hid (show parseP s = some ⟨(x : Nat), xs.map Int.ofNat, (y : Nat), ys.map Int.ofNat⟩ by rw [HP.out, hr, ht]; simp)
                    rw [ht, ← HX.out.2.2.2.2] at RP
                    have l1 := (TA.out w2 (Ext.refl _)).1
                    have l2 := (TB.out w2 (Ext.refl _)).1
                    have HL := Lib.hid (And.intro l1 l2)
                    clear hr ht l1 l2
                    go_wp2_with ((go_at_call 43; with_reducible refine (RP.out _ EX.out).mono ?_; rintro e w5 ⟨rfl, k5⟩; have e5 := Ext.trans XW (Ext.trans EX.out k5); have p0 := (at_new e5).cell 0; have p1 := (at_new e5).cell 1; have p2 := (at_new e5).cell 2; have p3 := (at_new e5).cell 3; have q0 := (at_new e5).frozen 0; have q1 := (at_new e5).frozen 1; have q2 := (at_new e5).frozen 2; have q3 := (at_new e5).frozen 3; simp at p0 p1 p2 p3; have t0 := (HB4.out.ext k5).cell 0; have t1 := (HB4.out.ext k5).cell 1; have t2 := (HB4.out.ext k5).cell 2; have t3 := (HB4.out.ext k5).cell 3; simp at t0 t1 t2 t3; have H5 := Lib.hid (And.intro e5 k5); clear e5 k5))
                    obtain ⟨s0, s1, s2, s3, hE⟩ := res_store4 (w := w) (u0 := .int .i64 (x : Nat)) (u1 := .slice (some ad) 0 0) (u2 := .int .i64 (y : Nat)) (u3 := .slice (some ⟨bd.block, bd.off + 1, none⟩) nb (c' - 1)) (at_new H5.out.1) (Ext.trans (ext1 _ _) H5.out.1) (Nat.le_refl _)
                    refine bodyPost_ret (v := .tuple #[.agg #[.int .i64 (x : Nat), .slice (some ad) 0 0, .int .i64 (y : Nat), .slice (some ⟨bd.block, bd.off + 1, none⟩) nb (c' - 1)], .int .i64 0]) (by simp [results, Tryz.results45, go_sem, s0, s1, s2, s3]) rfl ?_
                    unfold ParseR
                    rw [HN.out]
                    obtain ⟨l1, l2⟩ := HL.out
                    have n1 := HA.out.2.2.1.2 ad rfl
                    have n2 := HB.out.2.2.1.2 bd rfl
                    have n3 := HA.out.2.2.2.2.size
                    simp at n1 n3
                    have keep : ∀ (p : Addr) (l : List Int) (n : Nat), p.block ≠ w.heap.size → Il w5 (some p) n l → ∀ u0 u1 u2 u3, Il ((((w5.setCell ⟨w.heap.size, 0, none⟩ u0).setCell ⟨w.heap.size, 1, none⟩ u1).setCell ⟨w.heap.size, 2, none⟩ u2).setCell ⟨w.heap.size, 3, none⟩ u3) (some p) n l := fun p l n hp h u0 u1 u2 u3 => ⟨h.1, h.2.keep (by simp [World.setCell]) (fun q hq _ => by
                      cases hq
                      rw [Below.heap_setCell _ _ _ _ hp, Below.heap_setCell _ _ _ _ hp, Below.heap_setCell _ _ _ _ hp, Below.heap_setCell _ _ _ _ hp])⟩
                    have L1 := TA.out w5 (Ext.trans EX.out H5.out.2)
                    have L2 := TB.out w5 (Ext.trans EX.out H5.out.2)
                    refine ⟨some ad, 0, some ⟨bd.block, bd.off + 1, none⟩, c' - 1, by rw [l1, l2], by rw [l1]; omega, by rw [l2]; omega, by have := HA.out.2.1; omega, by have := HB.out.2.1; omega, ?_, ?_, (fun a e => by cases e; show _ ≤ ad.block; omega), (fun a e => by cases e; show _ ≤ bd.block; omega), hE⟩
                    · rw [l1]; exact keep _ _ _ (by show ad.block ≠ w.heap.size; omega) L1 _ _ _ _
                    · rw [l2]; exact keep _ _ _ (by show bd.block ≠ w.heap.size; omega) L2 _ _ _ _
                  · have HN := Lib.hid (show parseP s = none by rw [HP.out, hr, show (textS ⟨(x : Nat), xs.map Int.ofNat, (y : Nat), ys.map Int.ofNat⟩ == s) = false by simpa using ht]; rfl)
                    have hne0 : ByteArray.mk (textS ⟨(x : Nat), xs.map Int.ofNat, (y : Nat), ys.map Int.ofNat⟩).toArray ≠ X := by
                      rw [HX.out.2.2.2.2]
                      intro h
                      exact ht (by have := congrArg (fun b => b.data.toList) h; simpa using this)
                    have hne : ((ByteArray.mk (textS ⟨(x : Nat), xs.map Int.ofNat, (y : Nat), ys.map Int.ofNat⟩).toArray).toList == X.toList) = false := by
                      rw [beq_eq_false_iff_ne]
                      intro h
                      exact hne0 (ba_inj h)
                    generalize ByteArray.mk (textS ⟨(x : Nat), xs.map Int.ofNat, (y : Nat), ys.map Int.ofNat⟩).toArray = P1 at *
                    clear hr ht
                    go_wp2_with ((go_at_call 43; with_reducible refine (RP.out _ EX.out).mono ?_; rintro e w5 ⟨rfl, k5⟩; have e5 := Ext.trans XW (Ext.trans EX.out k5); have p0 := (at_new e5).cell 0; have p1 := (at_new e5).cell 1; have p2 := (at_new e5).cell 2; have p3 := (at_new e5).cell 3; have q0 := (at_new e5).frozen 0; have q1 := (at_new e5).frozen 1; have q2 := (at_new e5).frozen 2; have q3 := (at_new e5).frozen 3; simp at p0 p1 p2 p3; have t0 := (HB4.out.ext k5).cell 0; have t1 := (HB4.out.ext k5).cell 1; have t2 := (HB4.out.ext k5).cell 2; have t3 := (HB4.out.ext k5).cell 3; simp at t0 t1 t2 t3; have H5 := Lib.hid (And.intro e5 k5); clear e5 k5))
                    obtain ⟨s0, s1, s2, s3, hE⟩ := res_store4 (w := w) (u0 := .int .i64 0) (u1 := .slice none 0 0) (u2 := .int .i64 0) (u3 := .slice none 0 0) (at_new H5.out.1) (Ext.trans (ext1 _ _) H5.out.1) (Nat.le_refl _)
                    exact bodyPost_ret (v := .tuple #[.agg #[.int .i64 0, .slice none 0 0, .int .i64 0, .slice none 0 0], .int .i64 40]) (by simp [results, Tryz.results45, go_sem, s0, s1, s2, s3]) rfl (by unfold ParseR; rw [HN.out]; exact ⟨rfl, hE⟩)
            · rcases Nat.eq_or_lt_of_le (show 1 ≤ c' by omega) with hc' | hc'
              · subst hc'
                obtain rfl : nb = 0 := by omega
                have i1 : ¬ c = 1 := by omega
                have TA := TA0
                have TB := Lib.hid (fun W (h : Ext w2 W) => (⟨(TB0.out W h).1, fun hn => absurd hn (by omega)⟩ : Il W (some bd) 0 (ys.map Int.ofNat)))
                clear hc TA0 TB0
                refine wp_region_XT 13 12 rfl (by kernel_rfl) (by kernel_rfl) ?_
                intro HD
                refine wpH_segL HD 0 11 1 rfl rfl (by kernel_rfl) ?_
                apply Exists.intro
                refine ⟨fun d => ?_, ?_⟩
                · have Ca := fun (o : From d.w) => (From.cell2 d.h o ad (by rw [ca]; rfl)).trans ca
                  have Cb := fun (o : From d.w) => (From.cell2 d.h o bd (by rw [cb]; rfl)).trans cb
                  simp only [List.drop_zero, List.take_succ_cons, List.take_zero]
                  repeat (go_big_quiet_step (fail))
                  exact wpQuiet_nil rfl
                refine wpH_stepL 11 0 rfl rfl rfl (by kernel_rfl) ?_
                intro W3 hW3 K hK
                go_simp
                refine hK.out _ _ (ext1 _ _) ?_
                clear hK K
                refine wpH_end (fun W4 hW4 => ⟨by kernel_rfl, ?_⟩)
                have EX4 := Ext.trans hW3 (Ext.trans (ext1 _ _) hW4)
                have hR := hW3.size
                have EX := Lib.hid (res_store4 (w := w2) (u0 := .int .i64 (x : Nat)) (u1 := .slice (some ⟨ad.block, ad.off + 1, none⟩) na (c - 1)) (u2 := .int .i64 (y : Nat)) (u3 := .slice (some bd) 0 0) (at_new hW4) EX4 hR).2.2.2.2
                have HB4 := Lib.hid ((((((at_new hW4).set 0 (.int .i64 (x : Nat))).set 1 (.slice (some ⟨ad.block, ad.off + 1, none⟩) na (c - 1))).set 2 (.int .i64 (y : Nat))).set 3 (.slice (some bd) 0 0)))
                have r0 := (at_new hW4).cell 0
                have r1 := (at_new hW4).cell 1
                have r2 := (at_new hW4).cell 2
                have r3 := (at_new hW4).cell 3
                have q0 := (at_new hW4).frozen 0
                have q1 := (at_new hW4).frozen 1
                have q2 := (at_new hW4).frozen 2
                have q3 := (at_new hW4).frozen 3
                simp at r0 r1 r2 r3
                have XW := HB.out.2.2.2.2.2
                have RP := Lib.hid (fun W (h : Ext w2 W) => print_is (some ⟨ad.block, ad.off + 1, none⟩) (some bd) na 0 (c - 1) 0 (x : Nat) (y : Nat) (xs.map Int.ofNat) (ys.map Int.ofNat) bna bnb W (TA.out W h) (TB.out W h))
                clear hW3 hW4 EX4 hR p0 p1 p2 p3 ca cb
                simp only [List.drop_succ_cons, List.drop_zero]
                cases hr : rightB ⟨(x : Nat), xs.map Int.ofNat, (y : Nat), ys.map Int.ofNat⟩
                · have HN := Lib.hid (show parseP s = none by rw [HP.out, hr]; rfl)
                  rw [show textV ⟨(x : Nat), xs.map Int.ofNat, (y : Nat), ys.map Int.ofNat⟩ = [] by rw [textV, hr]; rfl, show textE ⟨(x : Nat), xs.map Int.ofNat, (y : Nat), ys.map Int.ofNat⟩ = 40 by rw [textE, hr]; rfl] at RP
                  clear hr
                  unfold sv at RP
                  go_wp2_with ((go_at_call 43; with_reducible refine (RP.out _ EX.out).mono ?_; rintro e w5 ⟨rfl, k5⟩; have e5 := Ext.trans XW (Ext.trans EX.out k5); have p0 := (at_new e5).cell 0; have p1 := (at_new e5).cell 1; have p2 := (at_new e5).cell 2; have p3 := (at_new e5).cell 3; have q0 := (at_new e5).frozen 0; have q1 := (at_new e5).frozen 1; have q2 := (at_new e5).frozen 2; have q3 := (at_new e5).frozen 3; simp at p0 p1 p2 p3; have t0 := (HB4.out.ext k5).cell 0; have t1 := (HB4.out.ext k5).cell 1; have t2 := (HB4.out.ext k5).cell 2; have t3 := (HB4.out.ext k5).cell 3; simp at t0 t1 t2 t3; have H5 := Lib.hid (And.intro e5 k5); clear e5 k5))
                  obtain ⟨s0, s1, s2, s3, hE⟩ := res_store4 (w := w) (u0 := .int .i64 0) (u1 := .slice none 0 0) (u2 := .int .i64 0) (u3 := .slice none 0 0) (at_new H5.out.1) (Ext.trans (ext1 _ _) H5.out.1) (Nat.le_refl _)
                  exact bodyPost_ret (v := .tuple #[.agg #[.int .i64 0, .slice none 0 0, .int .i64 0, .slice none 0 0], .int .i64 40]) (by simp [results, Tryz.results45, go_sem, s0, s1, s2, s3]) rfl (by unfold ParseR; rw [HN.out]; exact ⟨rfl, hE⟩)
                · rw [show textV ⟨(x : Nat), xs.map Int.ofNat, (y : Nat), ys.map Int.ofNat⟩ = textS ⟨(x : Nat), xs.map Int.ofNat, (y : Nat), ys.map Int.ofNat⟩ by rw [textV, hr]; rfl, show textE ⟨(x : Nat), xs.map Int.ofNat, (y : Nat), ys.map Int.ofNat⟩ = 0 by rw [textE, hr]; rfl] at RP
                  unfold sv at RP
                  by_cases ht : textS ⟨(x : Nat), xs.map Int.ofNat, (y : Nat), ys.map Int.ofNat⟩ = s
                  · have HN := Lib.hid (show parseP s = some ⟨(x : Nat), xs.map Int.ofNat, (y : Nat), ys.map Int.ofNat⟩ by rw [HP.out, hr, ht]; simp)
                    rw [ht, ← HX.out.2.2.2.2] at RP
                    have l1 := (TA.out w2 (Ext.refl _)).1
                    have l2 := (TB.out w2 (Ext.refl _)).1
                    have HL := Lib.hid (And.intro l1 l2)
                    clear hr ht l1 l2
                    go_wp2_with ((go_at_call 43; with_reducible refine (RP.out _ EX.out).mono ?_; rintro e w5 ⟨rfl, k5⟩; have e5 := Ext.trans XW (Ext.trans EX.out k5); have p0 := (at_new e5).cell 0; have p1 := (at_new e5).cell 1; have p2 := (at_new e5).cell 2; have p3 := (at_new e5).cell 3; have q0 := (at_new e5).frozen 0; have q1 := (at_new e5).frozen 1; have q2 := (at_new e5).frozen 2; have q3 := (at_new e5).frozen 3; simp at p0 p1 p2 p3; have t0 := (HB4.out.ext k5).cell 0; have t1 := (HB4.out.ext k5).cell 1; have t2 := (HB4.out.ext k5).cell 2; have t3 := (HB4.out.ext k5).cell 3; simp at t0 t1 t2 t3; have H5 := Lib.hid (And.intro e5 k5); clear e5 k5))
                    obtain ⟨s0, s1, s2, s3, hE⟩ := res_store4 (w := w) (u0 := .int .i64 (x : Nat)) (u1 := .slice (some ⟨ad.block, ad.off + 1, none⟩) na (c - 1)) (u2 := .int .i64 (y : Nat)) (u3 := .slice (some bd) 0 0) (at_new H5.out.1) (Ext.trans (ext1 _ _) H5.out.1) (Nat.le_refl _)
                    refine bodyPost_ret (v := .tuple #[.agg #[.int .i64 (x : Nat), .slice (some ⟨ad.block, ad.off + 1, none⟩) na (c - 1), .int .i64 (y : Nat), .slice (some bd) 0 0], .int .i64 0]) (by simp [results, Tryz.results45, go_sem, s0, s1, s2, s3]) rfl ?_
                    unfold ParseR
                    rw [HN.out]
                    obtain ⟨l1, l2⟩ := HL.out
                    have n1 := HA.out.2.2.1.2 ad rfl
                    have n2 := HB.out.2.2.1.2 bd rfl
                    have n3 := HA.out.2.2.2.2.size
                    simp at n1 n3
                    have keep : ∀ (p : Addr) (l : List Int) (n : Nat), p.block ≠ w.heap.size → Il w5 (some p) n l → ∀ u0 u1 u2 u3, Il ((((w5.setCell ⟨w.heap.size, 0, none⟩ u0).setCell ⟨w.heap.size, 1, none⟩ u1).setCell ⟨w.heap.size, 2, none⟩ u2).setCell ⟨w.heap.size, 3, none⟩ u3) (some p) n l := fun p l n hp h u0 u1 u2 u3 => ⟨h.1, h.2.keep (by simp [World.setCell]) (fun q hq _ => by
                      cases hq
                      rw [Below.heap_setCell _ _ _ _ hp, Below.heap_setCell _ _ _ _ hp, Below.heap_setCell _ _ _ _ hp, Below.heap_setCell _ _ _ _ hp])⟩
                    have L1 := TA.out w5 (Ext.trans EX.out H5.out.2)
                    have L2 := TB.out w5 (Ext.trans EX.out H5.out.2)
                    refine ⟨some ⟨ad.block, ad.off + 1, none⟩, c - 1, some bd, 0, by rw [l1, l2], by rw [l1]; omega, by rw [l2]; omega, by have := HA.out.2.1; omega, by have := HB.out.2.1; omega, ?_, ?_, (fun a e => by cases e; show _ ≤ ad.block; omega), (fun a e => by cases e; show _ ≤ bd.block; omega), hE⟩
                    · rw [l1]; exact keep _ _ _ (by show ad.block ≠ w.heap.size; omega) L1 _ _ _ _
                    · rw [l2]; exact keep _ _ _ (by show bd.block ≠ w.heap.size; omega) L2 _ _ _ _
                  · have HN := Lib.hid (show parseP s = none by rw [HP.out, hr, show (textS ⟨(x : Nat), xs.map Int.ofNat, (y : Nat), ys.map Int.ofNat⟩ == s) = false by simpa using ht]; rfl)
                    have hne0 : ByteArray.mk (textS ⟨(x : Nat), xs.map Int.ofNat, (y : Nat), ys.map Int.ofNat⟩).toArray ≠ X := by
                      rw [HX.out.2.2.2.2]
                      intro h
                      exact ht (by have := congrArg (fun b => b.data.toList) h; simpa using this)
                    have hne : ((ByteArray.mk (textS ⟨(x : Nat), xs.map Int.ofNat, (y : Nat), ys.map Int.ofNat⟩).toArray).toList == X.toList) = false := by
                      rw [beq_eq_false_iff_ne]
                      intro h
                      exact hne0 (ba_inj h)
                    generalize ByteArray.mk (textS ⟨(x : Nat), xs.map Int.ofNat, (y : Nat), ys.map Int.ofNat⟩).toArray = P1 at *
                    clear hr ht
                    go_wp2_with ((go_at_call 43; with_reducible refine (RP.out _ EX.out).mono ?_; rintro e w5 ⟨rfl, k5⟩; have e5 := Ext.trans XW (Ext.trans EX.out k5); have p0 := (at_new e5).cell 0; have p1 := (at_new e5).cell 1; have p2 := (at_new e5).cell 2; have p3 := (at_new e5).cell 3; have q0 := (at_new e5).frozen 0; have q1 := (at_new e5).frozen 1; have q2 := (at_new e5).frozen 2; have q3 := (at_new e5).frozen 3; simp at p0 p1 p2 p3; have t0 := (HB4.out.ext k5).cell 0; have t1 := (HB4.out.ext k5).cell 1; have t2 := (HB4.out.ext k5).cell 2; have t3 := (HB4.out.ext k5).cell 3; simp at t0 t1 t2 t3; have H5 := Lib.hid (And.intro e5 k5); clear e5 k5))
                    obtain ⟨s0, s1, s2, s3, hE⟩ := res_store4 (w := w) (u0 := .int .i64 0) (u1 := .slice none 0 0) (u2 := .int .i64 0) (u3 := .slice none 0 0) (at_new H5.out.1) (Ext.trans (ext1 _ _) H5.out.1) (Nat.le_refl _)
                    exact bodyPost_ret (v := .tuple #[.agg #[.int .i64 0, .slice none 0 0, .int .i64 0, .slice none 0 0], .int .i64 40]) (by simp [results, Tryz.results45, go_sem, s0, s1, s2, s3]) rfl (by unfold ParseR; rw [HN.out]; exact ⟨rfl, hE⟩)
              · skip
                have i1 : ¬ c = 1 := by omega
                have TA := TA0
                have i2 : ¬ c' = 1 := by omega
                have TB := TB0
                clear hc hc' TA0 TB0
                refine wp_region_XT 13 12 rfl (by kernel_rfl) (by kernel_rfl) ?_
                intro HD
                refine wpH_segL HD 0 11 1 rfl rfl (by kernel_rfl) ?_
                apply Exists.intro
                refine ⟨fun d => ?_, ?_⟩
                · have Ca := fun (o : From d.w) => (From.cell2 d.h o ad (by rw [ca]; rfl)).trans ca
                  have Cb := fun (o : From d.w) => (From.cell2 d.h o bd (by rw [cb]; rfl)).trans cb
                  simp only [List.drop_zero, List.take_succ_cons, List.take_zero]
                  repeat (go_big_quiet_step (fail))
                  exact wpQuiet_nil rfl
                refine wpH_stepL 11 0 rfl rfl rfl (by kernel_rfl) ?_
                intro W3 hW3 K hK
                go_simp
                refine hK.out _ _ (ext1 _ _) ?_
                clear hK K
                refine wpH_end (fun W4 hW4 => ⟨by kernel_rfl, ?_⟩)
                have EX4 := Ext.trans hW3 (Ext.trans (ext1 _ _) hW4)
                have hR := hW3.size
                have EX := Lib.hid (res_store4 (w := w2) (u0 := .int .i64 (x : Nat)) (u1 := .slice (some ⟨ad.block, ad.off + 1, none⟩) na (c - 1)) (u2 := .int .i64 (y : Nat)) (u3 := .slice (some ⟨bd.block, bd.off + 1, none⟩) nb (c' - 1)) (at_new hW4) EX4 hR).2.2.2.2
                have HB4 := Lib.hid ((((((at_new hW4).set 0 (.int .i64 (x : Nat))).set 1 (.slice (some ⟨ad.block, ad.off + 1, none⟩) na (c - 1))).set 2 (.int .i64 (y : Nat))).set 3 (.slice (some ⟨bd.block, bd.off + 1, none⟩) nb (c' - 1))))
                have r0 := (at_new hW4).cell 0
                have r1 := (at_new hW4).cell 1
                have r2 := (at_new hW4).cell 2
                have r3 := (at_new hW4).cell 3
                have q0 := (at_new hW4).frozen 0
                have q1 := (at_new hW4).frozen 1
                have q2 := (at_new hW4).frozen 2
                have q3 := (at_new hW4).frozen 3
                simp at r0 r1 r2 r3
                have XW := HB.out.2.2.2.2.2
                have RP := Lib.hid (fun W (h : Ext w2 W) => print_is (some ⟨ad.block, ad.off + 1, none⟩) (some ⟨bd.block, bd.off + 1, none⟩) na nb (c - 1) (c' - 1) (x : Nat) (y : Nat) (xs.map Int.ofNat) (ys.map Int.ofNat) bna bnb W (TA.out W h) (TB.out W h))
                clear hW3 hW4 EX4 hR p0 p1 p2 p3 ca cb
                simp only [List.drop_succ_cons, List.drop_zero]
                cases hr : rightB ⟨(x : Nat), xs.map Int.ofNat, (y : Nat), ys.map Int.ofNat⟩
                · have HN := Lib.hid (show parseP s = none by rw [HP.out, hr]; rfl)
                  rw [show textV ⟨(x : Nat), xs.map Int.ofNat, (y : Nat), ys.map Int.ofNat⟩ = [] by rw [textV, hr]; rfl, show textE ⟨(x : Nat), xs.map Int.ofNat, (y : Nat), ys.map Int.ofNat⟩ = 40 by rw [textE, hr]; rfl] at RP
                  clear hr
                  unfold sv at RP
                  go_wp2_with ((go_at_call 43; with_reducible refine (RP.out _ EX.out).mono ?_; rintro e w5 ⟨rfl, k5⟩; have e5 := Ext.trans XW (Ext.trans EX.out k5); have p0 := (at_new e5).cell 0; have p1 := (at_new e5).cell 1; have p2 := (at_new e5).cell 2; have p3 := (at_new e5).cell 3; have q0 := (at_new e5).frozen 0; have q1 := (at_new e5).frozen 1; have q2 := (at_new e5).frozen 2; have q3 := (at_new e5).frozen 3; simp at p0 p1 p2 p3; have t0 := (HB4.out.ext k5).cell 0; have t1 := (HB4.out.ext k5).cell 1; have t2 := (HB4.out.ext k5).cell 2; have t3 := (HB4.out.ext k5).cell 3; simp at t0 t1 t2 t3; have H5 := Lib.hid (And.intro e5 k5); clear e5 k5))
                  obtain ⟨s0, s1, s2, s3, hE⟩ := res_store4 (w := w) (u0 := .int .i64 0) (u1 := .slice none 0 0) (u2 := .int .i64 0) (u3 := .slice none 0 0) (at_new H5.out.1) (Ext.trans (ext1 _ _) H5.out.1) (Nat.le_refl _)
                  exact bodyPost_ret (v := .tuple #[.agg #[.int .i64 0, .slice none 0 0, .int .i64 0, .slice none 0 0], .int .i64 40]) (by simp [results, Tryz.results45, go_sem, s0, s1, s2, s3]) rfl (by unfold ParseR; rw [HN.out]; exact ⟨rfl, hE⟩)
                · rw [show textV ⟨(x : Nat), xs.map Int.ofNat, (y : Nat), ys.map Int.ofNat⟩ = textS ⟨(x : Nat), xs.map Int.ofNat, (y : Nat), ys.map Int.ofNat⟩ by rw [textV, hr]; rfl, show textE ⟨(x : Nat), xs.map Int.ofNat, (y : Nat), ys.map Int.ofNat⟩ = 0 by rw [textE, hr]; rfl] at RP
                  unfold sv at RP
                  by_cases ht : textS ⟨(x : Nat), xs.map Int.ofNat, (y : Nat), ys.map Int.ofNat⟩ = s
                  · have HN := Lib.hid (show parseP s = some ⟨(x : Nat), xs.map Int.ofNat, (y : Nat), ys.map Int.ofNat⟩ by rw [HP.out, hr, ht]; simp)
                    rw [ht, ← HX.out.2.2.2.2] at RP
                    have l1 := (TA.out w2 (Ext.refl _)).1
                    have l2 := (TB.out w2 (Ext.refl _)).1
                    have HL := Lib.hid (And.intro l1 l2)
                    clear hr ht l1 l2
                    go_wp2_with ((go_at_call 43; with_reducible refine (RP.out _ EX.out).mono ?_; rintro e w5 ⟨rfl, k5⟩; have e5 := Ext.trans XW (Ext.trans EX.out k5); have p0 := (at_new e5).cell 0; have p1 := (at_new e5).cell 1; have p2 := (at_new e5).cell 2; have p3 := (at_new e5).cell 3; have q0 := (at_new e5).frozen 0; have q1 := (at_new e5).frozen 1; have q2 := (at_new e5).frozen 2; have q3 := (at_new e5).frozen 3; simp at p0 p1 p2 p3; have t0 := (HB4.out.ext k5).cell 0; have t1 := (HB4.out.ext k5).cell 1; have t2 := (HB4.out.ext k5).cell 2; have t3 := (HB4.out.ext k5).cell 3; simp at t0 t1 t2 t3; have H5 := Lib.hid (And.intro e5 k5); clear e5 k5))
                    obtain ⟨s0, s1, s2, s3, hE⟩ := res_store4 (w := w) (u0 := .int .i64 (x : Nat)) (u1 := .slice (some ⟨ad.block, ad.off + 1, none⟩) na (c - 1)) (u2 := .int .i64 (y : Nat)) (u3 := .slice (some ⟨bd.block, bd.off + 1, none⟩) nb (c' - 1)) (at_new H5.out.1) (Ext.trans (ext1 _ _) H5.out.1) (Nat.le_refl _)
                    refine bodyPost_ret (v := .tuple #[.agg #[.int .i64 (x : Nat), .slice (some ⟨ad.block, ad.off + 1, none⟩) na (c - 1), .int .i64 (y : Nat), .slice (some ⟨bd.block, bd.off + 1, none⟩) nb (c' - 1)], .int .i64 0]) (by simp [results, Tryz.results45, go_sem, s0, s1, s2, s3]) rfl ?_
                    unfold ParseR
                    rw [HN.out]
                    obtain ⟨l1, l2⟩ := HL.out
                    have n1 := HA.out.2.2.1.2 ad rfl
                    have n2 := HB.out.2.2.1.2 bd rfl
                    have n3 := HA.out.2.2.2.2.size
                    simp at n1 n3
                    have keep : ∀ (p : Addr) (l : List Int) (n : Nat), p.block ≠ w.heap.size → Il w5 (some p) n l → ∀ u0 u1 u2 u3, Il ((((w5.setCell ⟨w.heap.size, 0, none⟩ u0).setCell ⟨w.heap.size, 1, none⟩ u1).setCell ⟨w.heap.size, 2, none⟩ u2).setCell ⟨w.heap.size, 3, none⟩ u3) (some p) n l := fun p l n hp h u0 u1 u2 u3 => ⟨h.1, h.2.keep (by simp [World.setCell]) (fun q hq _ => by
                      cases hq
                      rw [Below.heap_setCell _ _ _ _ hp, Below.heap_setCell _ _ _ _ hp, Below.heap_setCell _ _ _ _ hp, Below.heap_setCell _ _ _ _ hp])⟩
                    have L1 := TA.out w5 (Ext.trans EX.out H5.out.2)
                    have L2 := TB.out w5 (Ext.trans EX.out H5.out.2)
                    refine ⟨some ⟨ad.block, ad.off + 1, none⟩, c - 1, some ⟨bd.block, bd.off + 1, none⟩, c' - 1, by rw [l1, l2], by rw [l1]; omega, by rw [l2]; omega, by have := HA.out.2.1; omega, by have := HB.out.2.1; omega, ?_, ?_, (fun a e => by cases e; show _ ≤ ad.block; omega), (fun a e => by cases e; show _ ≤ bd.block; omega), hE⟩
                    · rw [l1]; exact keep _ _ _ (by show ad.block ≠ w.heap.size; omega) L1 _ _ _ _
                    · rw [l2]; exact keep _ _ _ (by show bd.block ≠ w.heap.size; omega) L2 _ _ _ _
                  · have HN := Lib.hid (show parseP s = none by rw [HP.out, hr, show (textS ⟨(x : Nat), xs.map Int.ofNat, (y : Nat), ys.map Int.ofNat⟩ == s) = false by simpa using ht]; rfl)
                    have hne0 : ByteArray.mk (textS ⟨(x : Nat), xs.map Int.ofNat, (y : Nat), ys.map Int.ofNat⟩).toArray ≠ X := by
                      rw [HX.out.2.2.2.2]
                      intro h
                      exact ht (by have := congrArg (fun b => b.data.toList) h; simpa using this)
                    have hne : ((ByteArray.mk (textS ⟨(x : Nat), xs.map Int.ofNat, (y : Nat), ys.map Int.ofNat⟩).toArray).toList == X.toList) = false := by
                      rw [beq_eq_false_iff_ne]
                      intro h
                      exact hne0 (ba_inj h)
                    generalize ByteArray.mk (textS ⟨(x : Nat), xs.map Int.ofNat, (y : Nat), ys.map Int.ofNat⟩).toArray = P1 at *
                    clear hr ht
                    go_wp2_with ((go_at_call 43; with_reducible refine (RP.out _ EX.out).mono ?_; rintro e w5 ⟨rfl, k5⟩; have e5 := Ext.trans XW (Ext.trans EX.out k5); have p0 := (at_new e5).cell 0; have p1 := (at_new e5).cell 1; have p2 := (at_new e5).cell 2; have p3 := (at_new e5).cell 3; have q0 := (at_new e5).frozen 0; have q1 := (at_new e5).frozen 1; have q2 := (at_new e5).frozen 2; have q3 := (at_new e5).frozen 3; simp at p0 p1 p2 p3; have t0 := (HB4.out.ext k5).cell 0; have t1 := (HB4.out.ext k5).cell 1; have t2 := (HB4.out.ext k5).cell 2; have t3 := (HB4.out.ext k5).cell 3; simp at t0 t1 t2 t3; have H5 := Lib.hid (And.intro e5 k5); clear e5 k5))
                    obtain ⟨s0, s1, s2, s3, hE⟩ := res_store4 (w := w) (u0 := .int .i64 0) (u1 := .slice none 0 0) (u2 := .int .i64 0) (u3 := .slice none 0 0) (at_new H5.out.1) (Ext.trans (ext1 _ _) H5.out.1) (Nat.le_refl _)
                    exact bodyPost_ret (v := .tuple #[.agg #[.int .i64 0, .slice none 0 0, .int .i64 0, .slice none 0 0], .int .i64 40]) (by simp [results, Tryz.results45, go_sem, s0, s1, s2, s3]) rfl (by unfold ParseR; rw [HN.out]; exact ⟨rfl, hE⟩)
      · have hno' := Lib.hid (And.intro hk (no59_succ s k hks hno (by rw [← hg]; intro e; apply h59; rw [e]; rfl)))
        have b1 : ((X[k].toNat : Int) != 59) = true := by rw [bne_iff_ne]; omega
        have b2 : (X[k].toNat != 59) = true := by rw [bne_iff_ne]; exact h59
        have b3 : ¬ (X[k].toNat : Int) = 59 := by omega
        clear hno hk hg hks
        go_wp2
        go_roundg (gk - 1)
        case measure => have := hno'.out.1; omega
        case rel => exact ⟨k + 1, by have := hno'.out.1; omega, by go_num, hno'.out.2, rfl⟩
    · have h5 : ¬ (k : Int) < X.size := by omega
      have HN := Lib.hid (parseP_no s (by rw [← List.take_of_length_le (l := s) (i := k) (by rw [← HX.out.1]; omega)]; exact hno))
      clear hno hk
      have B := Blk.new w #[.int .i64 0, .slice none 0 0, .int .i64 0, .slice none 0 0] 25
      go_wp2
      exact bodyPost_ret (v := .tuple #[.agg #[.int .i64 0, .slice none 0 0, .int .i64 0, .slice none 0 0], .int .i64 40]) (by simp [results, Tryz.results45, go_sem, B.cell]) rfl (by unfold ParseR; rw [HN.out]; exact ⟨rfl, ext1 _ _⟩)
end
end Go.Proofs.YtopgbggighaknaaGreatDoor
