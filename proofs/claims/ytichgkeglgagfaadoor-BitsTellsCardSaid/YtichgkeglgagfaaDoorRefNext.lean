/- The reference's Make and Next. -/
import Derived.Test.YtichgkeglgagfaaDoorNext
import Derived.Test.YtichgkeglgagfaaDoorSet
namespace Go.Proofs.YtichgkeglgagfaaDoor
open Go.RowKit Go
section
variable {a : Nat → Addr}
set_option maxHeartbeats 1000000 in
theorem refMake_no (n : Int) (h : cntB n = false) (w : World) : Calls Tryd.prog 14 #[.int .i64 n] w (NoR w 2) := by
  have E0 := ext1 w (.cells #[.int .i64 0, .slice none 0 0] 24)
  have hn : n < 0 ∨ (0 ≤ n ∧ 20000 < n) := by
    simp only [cntB, Bool.and_eq_false_iff, decide_eq_false_iff_not] at h
    omega
  clear h
  rcases hn with h | ⟨h1, h2⟩
  all_goals
    go_enter Tryd.func14, Tryd.ntmps14
    go_wp2
    exact bodyPost_ret (v := .tuple #[.agg #[.int .i64 0, .slice none 0 0], .int .i64 2]) (by simp [results, Tryd.results14, go_sem]) rfl ⟨rfl, E0⟩

set_option maxHeartbeats 1000000 in
theorem refMake_ok (n : Int) (h : cntB n = true) (w : World) : Calls Tryd.prog 14 #[.int .i64 n] w (BitsR w n (List.replicate ((n + 31) / 32).toNat 0)) := by
  have hn := h
  simp only [cntB, Bool.and_eq_true, decide_eq_true_eq] at hn
  obtain ⟨h0, h1⟩ := hn
  obtain ⟨m, hm⟩ : ∃ m : Nat, (n + 31) / 32 = m := ⟨((n + 31) / 32).toNat, by omega⟩
  rw [hm, Int.toNat_natCast]
  have M := make_words m (by omega)
  have hm1 : m ≤ 1000 := by omega
  have E0 := Lib.hid (ext1 w (.cells #[.int .i64 0, .slice none 0 0] 24))
  clear h
  go_enter Tryd.func14, Tryd.ntmps14
  go_wp2
  refine bodyPost_ret (v := .tuple #[.agg #[.int .i64 n, .slice (some ⟨w.heap.size + 1, 0, none⟩) m m], .int .i64 0]) (by simp [results, Tryd.results14, go_sem]) rfl ⟨_, m, m, rfl, ?_, ext2 _ _ _⟩
  have := Bt.blk (ws := List.replicate m 0) (at_new2 (w := w) (o := .cells #[.int .i64 n, .slice (some ⟨w.heap.size + 1, 0, none⟩) m m] 24) (Ext.refl _)) (by simpa using hm1) (zeros_W32 m)
  rwa [List.length_replicate] at this

set_option maxHeartbeats 1000000 in
theorem refNext_wrong (N : Int) (A : Option Addr) (n c : Nat) (ws : List Nat) (f : Int) (on : Bool) (hr : rightB N ws = false) (w : World) (h : Bt w A n ws) :
    Calls Tryd.prog 31 #[.agg #[.int .i64 N, .slice A n c], .int .i64 f, .bool on] w fun e w' => e = .returned (.tuple #[.int .i64 0, .bool false]) ∧ Ext w w' := by
  have E1 := Lib.hid (ext1 w (.cells #[.int .i64 N, .slice A n c] 24))
  have RR := Lib.hid (fun W (hW : Ext w W) => hr ▸ refRight_any N A n c ws W (h.ext hW))
  clear h hr
  go_enter Tryd.func31, Tryd.ntmps31
  go_wp2_with (go_at_call 16; refine (RR.out _ E1.out).mono ?_; rintro e w1 ⟨rfl, h1⟩)
  exact bodyPost_ret (v := .tuple #[.int .i64 0, .bool false]) (by simp [results, Tryd.results31, go_sem]) rfl ⟨rfl, Ext.trans E1.out h1⟩

set_option maxHeartbeats 4000000 in
theorem refNext_right (N : Int) (A : Option Addr) (n c : Nat) (ws : List Nat) (f : Int) (on : Bool) (hr : rightB N ws = true) (hf : f ≤ 9223372036854775807) (w : World) (h : Bt w A n ws) :
    Calls Tryd.prog 31 #[.agg #[.int .i64 N, .slice A n c], .int .i64 f, .bool on] w fun e w' => e = .returned (.tuple #[.int .i64 (optI (nxt N ws (max f 0) on)), .bool (nxt N ws (max f 0) on).isSome]) ∧ Ext w w' := by
  have RR := Lib.hid (fun W (hW : Ext w W) => hr ▸ refRight_any N A n c ws W (h.ext hW))
  have hr' := (right_iff N ws).1 hr
  have E1 := Lib.hid (ext1 w (.cells #[.int .i64 N, .slice A n c] 24))
  obtain ⟨M, rfl⟩ := Int.eq_ofNat_of_zero_le hr'.n0
  have hM : M ≤ 20000 := by have := hr'.n1; omega
  have hMn : M ≤ 32 * n := by have := hr'.len; have := h.len; omega
  have H := Lib.hid (And.intro h hr')
  clear h hr hr'
  obtain ⟨F, hF⟩ : ∃ F : Nat, max f 0 = (F : Int) := ⟨(max f 0).toNat, by omega⟩
  rw [hF]
  have hff : (0 ≤ f ∧ (F : Int) = f) ∨ (f < 0 ∧ (F : Int) = 0) := by omega
  have hF2 : (F : Int) ≤ 9223372036854775807 := by omega
  clear hF
  generalize ho : nxt M ws F on = o
  have HO := Lib.hid ho
  clear ho
  rcases hff with ⟨g0, g1⟩ | ⟨g0, g1⟩
  · subst g1
    go_enter Tryd.func31, Tryd.ntmps31
    go_wp2_with (go_at_call 16; refine (RR.out _ E1.out).mono ?_; rintro e w1 ⟨rfl, h1⟩)
    go_loopw [8] (fun i wr => ∃ k : Nat, i = .int .i64 k ∧ F ≤ k ∧ (∀ j : Nat, F ≤ j → j < k → bit ws j ≠ on) ∧ Ext (w.alloc (.cells #[.int .i64 M, .slice A n c] 24)) wr) (fun i _ => M - (intOf i).toNat)
    case atStart => exact ⟨F, rfl, Nat.le_refl _, fun j h1 h2 => by omega, h1⟩
    case round =>
      obtain ⟨k, rfl, hk, hb, hE⟩ := hrel
      have hEw := Ext.trans E1.out hE
      have r0 := (at_new hE).cell 0
      have r1 := (at_new hE).cell 1
      simp only [List.getElem?_toArray, List.getElem?_cons_zero, List.getElem?_cons_succ] at r0 r1
      by_cases hlt : k < M
      · have h5 : (k : Int) < M := by omega
        have hO := fun W (hW : Ext w W) => on_any M A n c ws k (by omega) W (H.out.1.ext hW)
        by_cases hbk : bit ws k = on
        · have HV := Lib.hid (show o = some k by rw [← HO.out]; exact nxt_some H.out.2 (by omega) h5 hbk (fun j hj hj' => hb j (by omega) hj'))
          rw [hbk] at hO
          have OO := Lib.hid hO
          have HH := Lib.hid (And.intro hEw (And.intro hbk hb))
          clear hO hb hbk hE hEw
          cases on
          all_goals
            go_wp2_with (go_at_call 40; refine (OO.out _ HH.out.1).mono ?_; rintro e w2 ⟨rfl, h2⟩)
            exact bodyPost_ret (v := .tuple #[.int .i64 k, .bool true]) (by simp [results, Tryd.results31, go_sem]) rfl ⟨by rw [HV.out]; rfl, Ext.trans HH.out.1 h2⟩
        · have hbk' : bit ws k = !on := by revert hbk; cases bit ws k <;> cases on <;> simp
          rw [hbk'] at hO
          have OO := Lib.hid hO
          have HH := Lib.hid (And.intro hEw (And.intro hbk (And.intro hb hE)))
          clear hO hb hbk hbk' hE hEw
          cases on
          all_goals
            simp only [Bool.not_false, Bool.not_true] at OO
            go_wp2_with (go_at_call 40; refine (OO.out _ HH.out.1).mono ?_; rintro e w2 ⟨rfl, h2⟩)
            go_roundw
            case rel => exact ⟨k + 1, by go_num, by omega, fun j h1 h2 => by
              by_cases hj : j = k
              · rw [hj]; exact HH.out.2.1
              · exact HH.out.2.2.1 j h1 (by omega), Ext.trans HH.out.2.2.2 h2⟩
            case measure => simp [intOf]; omega
      · have h5 : ¬ (k : Int) < M := by omega
        have HV := Lib.hid (show o = none by rw [← HO.out]; exact nxt_none (fun j hj hj' => hb j (by omega) (by omega)))
        have HH := Lib.hid hEw
        clear hb hE hEw
        go_wp2
        exact bodyPost_ret (v := .tuple #[.int .i64 0, .bool false]) (by simp [results, Tryd.results31, go_sem]) rfl ⟨by rw [HV.out]; rfl, HH.out⟩
  · obtain rfl : F = 0 := by omega
    go_enter Tryd.func31, Tryd.ntmps31
    go_wp2_with (go_at_call 16; refine (RR.out _ E1.out).mono ?_; rintro e w1 ⟨rfl, h1⟩)
    go_loopw [8] (fun i wr => ∃ k : Nat, i = .int .i64 k ∧ 0 ≤ k ∧ (∀ j : Nat, 0 ≤ j → j < k → bit ws j ≠ on) ∧ Ext (w.alloc (.cells #[.int .i64 M, .slice A n c] 24)) wr) (fun i _ => M - (intOf i).toNat)
    case atStart => exact ⟨0, rfl, Nat.le_refl _, fun j h1 h2 => by omega, h1⟩
    case round =>
      obtain ⟨k, rfl, hk, hb, hE⟩ := hrel
      have hEw := Ext.trans E1.out hE
      have r0 := (at_new hE).cell 0
      have r1 := (at_new hE).cell 1
      simp only [List.getElem?_toArray, List.getElem?_cons_zero, List.getElem?_cons_succ] at r0 r1
      by_cases hlt : k < M
      · have h5 : (k : Int) < M := by omega
        have hO := fun W (hW : Ext w W) => on_any M A n c ws k (by omega) W (H.out.1.ext hW)
        by_cases hbk : bit ws k = on
        · have HV := Lib.hid (show o = some k by rw [← HO.out]; exact nxt_some H.out.2 (by omega) h5 hbk (fun j hj hj' => hb j (by omega) hj'))
          rw [hbk] at hO
          have OO := Lib.hid hO
          have HH := Lib.hid (And.intro hEw (And.intro hbk hb))
          clear hO hb hbk hE hEw
          cases on
          all_goals
            go_wp2_with (go_at_call 40; refine (OO.out _ HH.out.1).mono ?_; rintro e w2 ⟨rfl, h2⟩)
            exact bodyPost_ret (v := .tuple #[.int .i64 k, .bool true]) (by simp [results, Tryd.results31, go_sem]) rfl ⟨by rw [HV.out]; rfl, Ext.trans HH.out.1 h2⟩
        · have hbk' : bit ws k = !on := by revert hbk; cases bit ws k <;> cases on <;> simp
          rw [hbk'] at hO
          have OO := Lib.hid hO
          have HH := Lib.hid (And.intro hEw (And.intro hbk (And.intro hb hE)))
          clear hO hb hbk hbk' hE hEw
          cases on
          all_goals
            simp only [Bool.not_false, Bool.not_true] at OO
            go_wp2_with (go_at_call 40; refine (OO.out _ HH.out.1).mono ?_; rintro e w2 ⟨rfl, h2⟩)
            go_roundw
            case rel => exact ⟨k + 1, by go_num, by omega, fun j h1 h2 => by
              by_cases hj : j = k
              · rw [hj]; exact HH.out.2.1
              · exact HH.out.2.2.1 j h1 (by omega), Ext.trans HH.out.2.2.2 h2⟩
            case measure => simp [intOf]; omega
      · have h5 : ¬ (k : Int) < M := by omega
        have HV := Lib.hid (show o = none by rw [← HO.out]; exact nxt_none (fun j hj hj' => hb j (by omega) (by omega)))
        have HH := Lib.hid hEw
        clear hb hE hEw
        go_wp2
        exact bodyPost_ret (v := .tuple #[.int .i64 0, .bool false]) (by simp [results, Tryd.results31, go_sem]) rfl ⟨by rw [HV.out]; rfl, HH.out⟩
end
end Go.Proofs.YtichgkeglgagfaaDoor
