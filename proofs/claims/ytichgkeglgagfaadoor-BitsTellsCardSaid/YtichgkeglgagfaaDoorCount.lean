/- bits: Count, Same. -/
import Derived.Test.YtichgkeglgagfaaDoorEither
namespace Go.Proofs.YtichgkeglgagfaaDoor
open Go.RowKit Go
def cntN (N : Int) (ws : List Nat) : Nat := if rightB N ws then (plist N ws 0 true).length else 0
section
variable {a : Nat → Addr}
set_option maxHeartbeats 2000000 in
theorem count_any (N : Int) (A : Option Addr) (n c : Nat) (ws : List Nat) (w : World) (h : Bt w A n ws) :
    Calls Tryd.prog 19 #[.agg #[.int .i64 N, .slice A n c]] w fun e w' => e = .returned (.int .i64 (cntN N ws : Nat)) ∧ Ext w w' := by
  have E0 := ext1 w (.cells #[.int .i64 N, .slice A n c] 24)
  have hR := fun W (hW : Ext w W) => right_any N A n c ws W (h.ext hW)
  by_cases hr : rightB N ws = true
  · have RR := Lib.hid (hr ▸ hR)
    have hl := h.len
    have hP := pop_plist ((right_iff N ws).1 hr) h.lt
    have HP := Lib.hid (show cntN N ws = popTo ws n by rw [cntN, if_pos hr, ← hP, hl])
    have H := Lib.hid h
    have hn := h.le
    clear hR hr hP h
    go_enter Tryd.func19, Tryd.ntmps19
    go_wp2_with (go_at_call 15; refine (RR.out _ (ext1 _ _)).mono ?_; rintro e w1 ⟨rfl, h1⟩; have d0 := (at_new h1).cell 0; have d1 := (at_new h1).cell 1; simp at d0 d1)
    have H1 := Lib.hid h1
    clear h1 d0
    go_loopw [3, 11] (fun s i wr => ∃ k : Nat, i = .int .i64 k ∧ k ≤ n ∧ s = .int .i64 (popTo ws k : Nat) ∧ Ext w1 wr) (fun _ i _ => n - (intOf i).toNat)
    case atStart => exact ⟨0, rfl, by omega, by simp [popTo], Ext.refl _⟩
    case round =>
      obtain ⟨k, rfl, hk, rfl, hE⟩ := hrel
      by_cases hlt : k < n
      · obtain ⟨ad, rfl, hb, hcell⟩ := H.out.rd (by omega)
        have hE0 := Ext.trans E0 (Ext.trans H1.out hE)
        have ck : wr.cell? (ad.add k) = some (.int .u32 (wd ws k : Nat)) := ((hE0.cell (p := ad.add k) (by rw [block_of_add]; exact hb)).trans (hcell k hlt))
        have dk : wr.cell? ⟨w.heap.size, 1, none⟩ = some (.slice (some ad) n c) := ((at_new (Ext.trans H1.out hE)).cell 1).trans rfl
        have O := Lib.hid (fun w => ones_any (wd ws k) (wd_lt H.out.lt k) w)
        have hs := popTo_succ ws k
        have hp := popTo_le ws k
        have hq := pop_le (wd ws k)
        have h5 : (k : Int) < n := by omega
        generalize wd ws k = x at *
        generalize pop x = px at *
        generalize popTo ws k = pk at *
        have HS := Lib.hid (And.intro hs hE)
        clear hs hE hcell hE0 d1
        go_wp2_with (go_at_call 42; refine (O.out _).mono ?_; rintro e w2 ⟨rfl, nq, rfl⟩)
        go_roundw
        case rel => exact ⟨k + 1, by go_num, by omega, by rw [HS.out.1]; go_num, Ext.trans HS.out.2 (ext_drewN _ _)⟩
        case measure => simp [intOf]; omega
      · have hk' : k = n := by omega
        subst hk'
        have HE := Lib.hid hE
        clear hE
        go_wp2
        go_ret
        exact ⟨ret_int (by rw [HP.out]), Ext.trans E0 (Ext.trans H1.out HE.out)⟩
  · have hr' : rightB N ws = false := by simpa using hr
    have RR := Lib.hid (hr' ▸ hR)
    have HP := Lib.hid (show cntN N ws = 0 by rw [cntN, if_neg hr])
    clear hR hr hr' h
    go_enter Tryd.func19, Tryd.ntmps19
    go_wp2_with (go_at_call 15; refine (RR.out _ (ext1 _ _)).mono ?_; rintro e w1 ⟨rfl, h1⟩)
    go_ret
    exact ⟨ret_int (by rw [HP.out]; rfl), Ext.trans E0 h1⟩

/-- slices.Equal on words. -/
theorem wd_ext {xs ys : List Nat} (hl : xs.length = ys.length) (h : ∀ j, j < xs.length → wd xs j = wd ys j) : xs = ys := by
  apply List.ext_getElem hl
  intro j h1 h2
  have := h j h1
  simpa [wd, h1, h2] using this
set_option maxHeartbeats 2000000 in
theorem equal_any (A A' : Option Addr) (n c n' c' : Nat) (ws vs : List Nat) (w : World) (h : Bt w A n ws) (h' : Bt w A' n' vs) :
    Calls Tryd.prog 44 #[.slice A n c, .slice A' n' c'] w fun e w' => e = .returned (.bool (decide (ws = vs))) ∧ Ext w w' := by
  have hl := h.len
  have hl' := h'.len
  have hn := h.le
  have hn' := h'.le
  by_cases he : n = n'
  · subst he
    have H := Lib.hid (And.intro h (And.intro h' (And.intro hl hl')))
    clear h h' hl hl'
    go_enter Tryd.func44, Tryd.ntmps44
    go_wp2
    go_loopw [13] (fun i wr => ∃ k : Nat, i = .int .i64 k ∧ k ≤ n ∧ (∀ j, j < k → wd ws j = wd vs j) ∧ Ext w wr) (fun i _ => n - (intOf i).toNat)
    case atStart => exact ⟨0, rfl, by omega, fun j hj => by omega, Ext.refl _⟩
    case round =>
      obtain ⟨k, rfl, hk, hq, hE⟩ := hrel
      by_cases hlt : k < n
      · obtain ⟨ad, rfl, hb, hcell⟩ := H.out.1.rd (by omega)
        obtain ⟨ad', rfl, hb', hcell'⟩ := H.out.2.1.rd (by omega)
        have ck : wr.cell? (ad.add k) = some (.int .u32 (wd ws k : Nat)) := ((hE.cell (p := ad.add k) (by rw [block_of_add]; exact hb)).trans (hcell k hlt))
        have ck' : wr.cell? (ad'.add k) = some (.int .u32 (wd vs k : Nat)) := ((hE.cell (p := ad'.add k) (by rw [block_of_add]; exact hb')).trans (hcell' k hlt))
        have h5 : (k : Int) < n := by omega
        by_cases hxy : wd ws k = wd vs k
        · have HQ := Lib.hid (And.intro hq (And.intro hE hxy))
          rw [← hxy] at ck'
          clear hq hE hcell hcell' hxy
          go_wp2
          go_quiet (fail)
          go_wp2
          go_roundw
          case rel => exact ⟨k + 1, by go_num, by omega, fun j hj => by
            by_cases hj' : j = k
            · rw [hj']; exact HQ.out.2.2
            · exact HQ.out.1 j (by omega), Ext.trans HQ.out.2.1 (ext_drewN _ _)⟩
          case measure => simp [intOf]; omega
        · have hne : (((wd ws k : Nat) : Int) != ((wd vs k : Nat) : Int)) = true := by rw [bne_iff_ne]; omega
          have R := Lib.hid (show decide (ws = vs) = false from decide_eq_false (fun e => hxy (by rw [e])))
          have HQ := Lib.hid hE
          clear hq hE hcell hcell' hxy
          generalize wd ws k = x at *
          generalize wd vs k = y at *
          go_wp2
          go_quiet (fail)
          go_wp2
          go_ret
          exact ⟨ret_bool R.out.symm, Ext.trans HQ.out (ext_drewN _ _)⟩
      · have HQ := Lib.hid (And.intro hq hE)
        have h5 : ¬ (k : Int) < n := by omega
        clear hq hE
        go_wp2
        go_ret
        exact ⟨ret_bool (by rw [decide_eq_true (wd_ext (by rw [H.out.2.2.1, H.out.2.2.2]) (fun j hj => HQ.out.1 j (by rw [H.out.2.2.1] at hj; omega)))]), HQ.out.2⟩
  · have e1 : ((n : Int) != (n' : Int)) = true := by rw [bne_iff_ne]; omega
    have R := Lib.hid (show decide (ws = vs) = false by rw [decide_eq_false_iff_not]; rintro rfl; omega)
    clear h h' he hl hl'
    go_enter Tryd.func44, Tryd.ntmps44
    go_wp2
    go_ret
    exact ⟨ret_bool R.out.symm, Ext.refl _⟩

def sameB (N M : Int) (ws vs : List Nat) : Bool := (N == M) && decide (ws = vs)
set_option maxHeartbeats 1000000 in
theorem same_any (N M : Int) (A A' : Option Addr) (n c n' c' : Nat) (ws vs : List Nat) (w : World) (h : Bt w A n ws) (h' : Bt w A' n' vs) :
    Calls Tryd.prog 24 #[.agg #[.int .i64 N, .slice A n c], .agg #[.int .i64 M, .slice A' n' c']] w fun e w' => e = .returned (.bool (sameB N M ws vs)) ∧ Ext w w' := by
  have E0 := ext2 w (.cells #[.int .i64 N, .slice A n c] 24) (.cells #[.int .i64 M, .slice A' n' c'] 24)
  have EQ := Lib.hid (fun W (hW : Ext w W) => equal_any A A' n c n' c' ws vs W (h.ext hW) (h'.ext hW))
  have HE := Lib.hid E0
  clear h h' E0
  by_cases hnm : N = M
  · subst hnm
    have R := Lib.hid (show sameB N N ws vs = decide (ws = vs) by simp [sameB])
    go_enter Tryd.func24, Tryd.ntmps24
    go_wp2_with (go_at_call 44; refine (EQ.out _ HE.out).mono ?_; rintro e w1 ⟨rfl, h1⟩)
    go_ret
    exact ⟨ret_bool R.out.symm, Ext.trans HE.out h1⟩
  · have e1 : (N == M) = false := by rw [beq_eq_false_iff_ne]; exact hnm
    have R := Lib.hid (show sameB N M ws vs = false by simp [sameB, e1])
    go_enter Tryd.func24, Tryd.ntmps24
    go_wp2
    go_ret
    exact ⟨ret_bool R.out.symm, HE.out⟩

set_option maxHeartbeats 2000000 in
theorem refSame_any (N M : Int) (A A' : Option Addr) (n c n' c' : Nat) (ws vs : List Nat) (w : World) (h : Bt w A n ws) (h' : Bt w A' n' vs) :
    Calls Tryd.prog 25 #[.agg #[.int .i64 N, .slice A n c], .agg #[.int .i64 M, .slice A' n' c']] w fun e w' => e = .returned (.bool (sameB N M ws vs)) ∧ Ext w w' := by
  have E0 := ext2 w (.cells #[.int .i64 N, .slice A n c] 24) (.cells #[.int .i64 M, .slice A' n' c'] 24)
  have hl := h.len
  have hl' := h'.len
  have hn := h.le
  have hn' := h'.le
  by_cases hnm : N = M
  · subst hnm
    have e0 : (N != N) = false := by simp
    by_cases he : n = n'
    · subst he
      have e1 : ((n : Int) != (n : Int)) = false := by simp
      have R := Lib.hid (show sameB N N ws vs = decide (ws = vs) by simp [sameB])
      have H := Lib.hid (And.intro h (And.intro h' (And.intro hl (And.intro hl' E0))))
      clear h h' hl hl' E0
      go_enter Tryd.func25, Tryd.ntmps25
      go_wp2
      go_loopw [5] (fun i wr => ∃ k : Nat, i = .int .i64 k ∧ k ≤ n ∧ (∀ j, j < k → wd ws j = wd vs j) ∧ Ext ((w.alloc (.cells #[.int .i64 N, .slice A n c] 24)).alloc (.cells #[.int .i64 N, .slice A' n c'] 24)) wr) (fun i _ => n - (intOf i).toNat)
      case atStart => exact ⟨0, rfl, by omega, fun j hj => by omega, Ext.refl _⟩
      case round =>
        obtain ⟨k, rfl, hk, hq, hE⟩ := hrel
        have d0 := (at_old hE).cell 1
        have d1 := (at_new2 hE).cell 1
        simp at d0 d1
        by_cases hlt : k < n
        · obtain ⟨ad, rfl, hb, hcell⟩ := H.out.1.rd (by omega)
          obtain ⟨ad', rfl, hb', hcell'⟩ := H.out.2.1.rd (by omega)
          have hE' := Ext.trans H.out.2.2.2.2 hE
          have ck : wr.cell? (ad.add k) = some (.int .u32 (wd ws k : Nat)) := ((hE'.cell (p := ad.add k) (by rw [block_of_add]; exact hb)).trans (hcell k hlt))
          have ck' : wr.cell? (ad'.add k) = some (.int .u32 (wd vs k : Nat)) := ((hE'.cell (p := ad'.add k) (by rw [block_of_add]; exact hb')).trans (hcell' k hlt))
          have h5 : (k : Int) < n := by omega
          by_cases hxy : wd ws k = wd vs k
          · have HQ := Lib.hid (And.intro hq (And.intro hE hxy))
            rw [← hxy] at ck'
            clear hq hE hcell hcell' hxy hE'
            go_wp2
            go_quiet (fail)
            go_wp2
            go_roundw
            case rel => exact ⟨k + 1, by go_num, by omega, fun j hj => by
              by_cases hj' : j = k
              · rw [hj']; exact HQ.out.2.2
              · exact HQ.out.1 j (by omega), Ext.trans HQ.out.2.1 (ext_drewN _ _)⟩
            case measure => simp [intOf]; omega
          · have hne : (((wd ws k : Nat) : Int) != ((wd vs k : Nat) : Int)) = true := by rw [bne_iff_ne]; omega
            have R2 := Lib.hid (show decide (ws = vs) = false from decide_eq_false (fun e => hxy (by rw [e])))
            have HQ := Lib.hid hE'
            clear hq hE hcell hcell' hxy hE'
            generalize wd ws k = x at *
            generalize wd vs k = y at *
            go_wp2
            go_quiet (fail)
            go_wp2
            go_ret
            exact ⟨ret_bool (by rw [R.out]; exact R2.out.symm), Ext.trans HQ.out (ext_drewN _ _)⟩
        · have HQ := Lib.hid (And.intro hq hE)
          have h5 : ¬ (k : Int) < n := by omega
          clear hq hE
          go_wp2
          go_ret
          exact ⟨ret_bool (by rw [R.out, decide_eq_true (wd_ext (by rw [H.out.2.2.1, H.out.2.2.2.1]) (fun j hj => HQ.out.1 j (by rw [H.out.2.2.1] at hj; omega)))]), Ext.trans H.out.2.2.2.2 HQ.out.2⟩
    · have e1 : ((n : Int) != (n' : Int)) = true := by rw [bne_iff_ne]; omega
      have R := Lib.hid (show sameB N N ws vs = false by rw [sameB, decide_eq_false (by rintro rfl; omega)]; simp)
      have HE := Lib.hid E0
      clear h h' he hl hl' E0
      go_enter Tryd.func25, Tryd.ntmps25
      go_wp2
      go_ret
      exact ⟨ret_bool R.out.symm, HE.out⟩
  · have e1 : (N != M) = true := by rw [bne_iff_ne]; exact hnm
    have R := Lib.hid (show sameB N M ws vs = false by rw [sameB, beq_eq_false_iff_ne.2 hnm]; rfl)
    have HE := Lib.hid E0
    clear h h' hl hl' E0
    go_enter Tryd.func25, Tryd.ntmps25
    go_wp2
    go_ret
    exact ⟨ret_bool R.out.symm, HE.out⟩
end
end Go.Proofs.YtichgkeglgagfaaDoor
