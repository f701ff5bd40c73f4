/- The law BitsSets, walked. -/
import Derived.Test.YtfldgiocaboelaaDoorCut
import Derived.Test.YtfldgiocaboelaaDoorLawMath
namespace Go.Proofs.YtfldgiocaboelaaDoor
open Go.RowKit Go
section
variable {a : Nat → Addr}
set_option maxHeartbeats 4000000 in
theorem sets_wrong (N : Int) (A : Option Addr) (n n' c : Nat) (ws : List Nat) (i k : Int) (on : Bool) (w : World)
    (C : ∀ W : World, Calls Tryd.prog 12 #[.agg #[.int .i64 N, .slice A n c]] W fun e w' => e = .returned (.agg #[.int .i64 N, .slice A n' c]) ∧ Ext W w') (B : Bt w A n' ws) (hG : G a w) (hr : rightB N ws = false) :
    Calls Tryd.prog 5 #[.agg #[.int .i64 N, .slice A n c], .int .i64 i, .int .i64 k, .bool on] w fun e w' => e = .returned (.bool true) ∧ Ext w w' := by
  have SH := Lib.hid (fun W (hW : Ext w W) => shown_any (a := a) W (hG.ext hW))
  have CU := Lib.hid C
  clear C
  have ST := Lib.hid (fun W (hW : Ext w W) => set_no (a := a) N A n' c ws i on 20 (Or.inl ⟨hr, rfl⟩) W (B.ext hW) (hG.ext hW))
  have RR := Lib.hid (fun W (hW : Ext w W) => hr ▸ right_any N A n' c ws W (B.ext hW))
  clear B hG
  go_enter Tryd.func5, Tryd.ntmps5
  go_wp2_with (first
    | (go_at_call 11; refine (SH.out _ (ext1 _ _)).mono ?_; rintro e w1 ⟨rfl, h1⟩; have p0 := (at_new h1).cell 0; have p1 := (at_new h1).cell 1; simp only [List.getElem?_toArray, List.getElem?_cons_zero, List.getElem?_cons_succ] at p0 p1)
    | (go_at_call 12; refine (CU.out _).mono ?_; rintro e w2 ⟨rfl, h2⟩; replace h2 := Ext.trans h1 h2; clear p0 p1 h1; have p0 := (at_new h2).cell 0; have p1 := (at_new h2).cell 1; have q0 := (at_new h2).frozen 0; have q1 := (at_new h2).frozen 1; simp only [List.getElem?_toArray, List.getElem?_cons_zero, List.getElem?_cons_succ] at p0 p1; obtain ⟨b, hW⟩ := reborn (at_new h2) (Ext.trans (ext1 _ _) h2) (Nat.le_refl _) (.int .i64 N) (.slice A n' c); clear h2; have r0 := b.cell 0; have r1 := b.cell 1; simp only [List.getElem?_toArray, List.getElem?_cons_zero, List.getElem?_cons_succ] at r0 r1)
    | (go_at_call 26; (with_reducible refine (ST.out _ hW).mono ?_); rintro e w' ⟨rfl, hx⟩; replace hx := Ext.trans hx (ext1 _ (.cells #[.int .i64 0, .slice none 0 0] 24)); have b4 := Blk.new w' #[.int .i64 0, .slice none 0 0] 24; replace hW := Ext.trans hW hx; replace b := b.ext hx; clear hx; have r0 := b.cell 0; have r1 := b.cell 1; have s0 := b4.cell 0; have s1 := b4.cell 1; simp only [List.getElem?_toArray, List.getElem?_cons_zero, List.getElem?_cons_succ] at r0 r1 s0 s1)
    | (go_at_call 15; (with_reducible refine (RR.out _ hW).mono ?_); rintro e w' ⟨rfl, hx⟩; replace hW := Ext.trans hW hx; replace b := b.ext hx; clear hx; have r0 := b.cell 0; have r1 := b.cell 1; simp only [List.getElem?_toArray, List.getElem?_cons_zero, List.getElem?_cons_succ] at r0 r1))
  go_ret
  exact ⟨rfl, hW⟩
set_option maxHeartbeats 4000000 in
theorem sets_off (N : Int) (A : Option Addr) (n n' c : Nat) (ws : List Nat) (i k : Int) (on : Bool) (w : World)
    (C : ∀ W : World, Calls Tryd.prog 12 #[.agg #[.int .i64 N, .slice A n c]] W fun e w' => e = .returned (.agg #[.int .i64 N, .slice A n' c]) ∧ Ext W w') (B : Bt w A n' ws) (hG : G a w) (hr : rightB N ws = true) (hp : plB N i = false) :
    Calls Tryd.prog 5 #[.agg #[.int .i64 N, .slice A n c], .int .i64 i, .int .i64 k, .bool on] w fun e w' => e = .returned (.bool true) ∧ Ext w w' := by
  have SH := Lib.hid (fun W (hW : Ext w W) => shown_any (a := a) W (hG.ext hW))
  have CU := Lib.hid C
  clear C
  have ST := Lib.hid (fun W (hW : Ext w W) => set_no (a := a) N A n' c ws i on 21 (Or.inr ⟨hr, hp, rfl⟩) W (B.ext hW) (hG.ext hW))
  have RR := Lib.hid (fun W (hW : Ext w W) => hr ▸ right_any N A n' c ws W (B.ext hW))
  clear B hG
  go_enter Tryd.func5, Tryd.ntmps5
  go_wp2_with (first
    | (go_at_call 11; refine (SH.out _ (ext1 _ _)).mono ?_; rintro e w1 ⟨rfl, h1⟩; have p0 := (at_new h1).cell 0; have p1 := (at_new h1).cell 1; simp only [List.getElem?_toArray, List.getElem?_cons_zero, List.getElem?_cons_succ] at p0 p1)
    | (go_at_call 12; refine (CU.out _).mono ?_; rintro e w2 ⟨rfl, h2⟩; replace h2 := Ext.trans h1 h2; clear p0 p1 h1; have p0 := (at_new h2).cell 0; have p1 := (at_new h2).cell 1; have q0 := (at_new h2).frozen 0; have q1 := (at_new h2).frozen 1; simp only [List.getElem?_toArray, List.getElem?_cons_zero, List.getElem?_cons_succ] at p0 p1; obtain ⟨b, hW⟩ := reborn (at_new h2) (Ext.trans (ext1 _ _) h2) (Nat.le_refl _) (.int .i64 N) (.slice A n' c); clear h2; have r0 := b.cell 0; have r1 := b.cell 1; simp only [List.getElem?_toArray, List.getElem?_cons_zero, List.getElem?_cons_succ] at r0 r1)
    | (go_at_call 26; (with_reducible refine (ST.out _ hW).mono ?_); rintro e w' ⟨rfl, hx⟩; replace hx := Ext.trans hx (ext1 _ (.cells #[.int .i64 0, .slice none 0 0] 24)); have b4 := Blk.new w' #[.int .i64 0, .slice none 0 0] 24; replace hW := Ext.trans hW hx; replace b := b.ext hx; clear hx; have r0 := b.cell 0; have r1 := b.cell 1; have s0 := b4.cell 0; have s1 := b4.cell 1; simp only [List.getElem?_toArray, List.getElem?_cons_zero, List.getElem?_cons_succ] at r0 r1 s0 s1)
    | (go_at_call 15; (with_reducible refine (RR.out _ hW).mono ?_); rintro e w' ⟨rfl, hx⟩; replace hW := Ext.trans hW hx; replace b := b.ext hx; clear hx; have r0 := b.cell 0; have r1 := b.cell 1; simp only [List.getElem?_toArray, List.getElem?_cons_zero, List.getElem?_cons_succ] at r0 r1))
  go_ret
  exact ⟨rfl, hW⟩
set_option maxHeartbeats 4000000 in
theorem sets_same (N : Int) (A : Option Addr) (n n' c : Nat) (ws : List Nat) (i k : Int) (on : Bool) (w : World)
    (C : ∀ W : World, Calls Tryd.prog 12 #[.agg #[.int .i64 N, .slice A n c]] W fun e w' => e = .returned (.agg #[.int .i64 N, .slice A n' c]) ∧ Ext W w') (B : Bt w A n' ws) (hG : G a w) (hr : rightB N ws = true) (hp : plB N i = true) (hk : k = i) :
    Calls Tryd.prog 5 #[.agg #[.int .i64 N, .slice A n c], .int .i64 i, .int .i64 k, .bool on] w fun e w' => e = .returned (.bool true) ∧ Ext w w' := by
  obtain ⟨ws2, hws2⟩ : ∃ ws2, turnW i (i + 1) on ws = ws2 := ⟨_, rfl⟩
  have M := set_math hr hp on hws2 B.lt
  have ST0 := fun W (hW : Ext w W) => set_ok (a := a) N A n' c ws i on hr hp W (B.ext hW) (hG.ext hW)
  rw [hws2] at ST0
  have hkb : (k == i) = true := by rw [hk]; exact beq_self_eq_true i
  rcases on with _ | _
  all_goals
    have SH := Lib.hid (fun W (hW : Ext w W) => shown_any (a := a) W (hG.ext hW))
    have CU := Lib.hid C
    clear C
    have ST := Lib.hid ST0
    clear ST0
    have RR := Lib.hid (fun A n c W (B4 : Bt W A n ws2) => M.1 ▸ right_any N A n c ws2 W B4)
    have HI := Lib.hid (fun A n c W (B4 : Bt W A n ws2) => M.2.1 ▸ has_any N A n c ws2 i W B4)
    clear M hws2 hr hp hk
    clear B hG
    go_enter Tryd.func5, Tryd.ntmps5
    go_wp2_with (first
      | (go_at_call 11; refine (SH.out _ (ext1 _ _)).mono ?_; rintro e w1 ⟨rfl, h1⟩; have p0 := (at_new h1).cell 0; have p1 := (at_new h1).cell 1; simp only [List.getElem?_toArray, List.getElem?_cons_zero, List.getElem?_cons_succ] at p0 p1)
      | (go_at_call 12; refine (CU.out _).mono ?_; rintro e w2 ⟨rfl, h2⟩; replace h2 := Ext.trans h1 h2; clear p0 p1 h1; have p0 := (at_new h2).cell 0; have p1 := (at_new h2).cell 1; have q0 := (at_new h2).frozen 0; have q1 := (at_new h2).frozen 1; simp only [List.getElem?_toArray, List.getElem?_cons_zero, List.getElem?_cons_succ] at p0 p1; obtain ⟨b, hW⟩ := reborn (at_new h2) (Ext.trans (ext1 _ _) h2) (Nat.le_refl _) (.int .i64 N) (.slice A n' c); clear h2; have r0 := b.cell 0; have r1 := b.cell 1; simp only [List.getElem?_toArray, List.getElem?_cons_zero, List.getElem?_cons_succ] at r0 r1)
      | (go_at_call 26; (with_reducible refine (ST.out _ hW).mono ?_); rintro e w' ⟨A4, n4, c4, rfl, B4, hx⟩; replace B4 := B4.ext (ext1 _ (.cells #[.int .i64 N, .slice A4 n4 c4] 24)); replace hx := Ext.trans hx (ext1 _ (.cells #[.int .i64 N, .slice A4 n4 c4] 24)); have b4 := Blk.new w' #[.int .i64 N, .slice A4 n4 c4] 24; replace hW := Ext.trans hW hx; replace b := b.ext hx; clear hx; have r0 := b.cell 0; have r1 := b.cell 1; have s0 := b4.cell 0; have s1 := b4.cell 1; simp only [List.getElem?_toArray, List.getElem?_cons_zero, List.getElem?_cons_succ] at r0 r1 s0 s1))
    refine wp_region_on (by kernel_rfl) (by kernel_rfl) ?_
    have hx := fromOf hW
    repeat (go_big_quiet_step ((first | (go_at_call 15; with_reducible exact on_call (fun W hx => RR.out _ _ _ _ (B4.ext hx)) _) | (go_at_call 17; with_reducible exact on_call (fun W hx => HI.out _ _ _ _ (B4.ext hx)) _))))
    refine wpQuiet_nil ?_
    intro W hZ
    go_wp2
    go_ret
    exact ⟨rfl, Ext.trans hW hZ⟩
set_option maxHeartbeats 4000000 in
theorem sets_else (N : Int) (A : Option Addr) (n n' c : Nat) (ws : List Nat) (i k : Int) (on : Bool) (w : World)
    (C : ∀ W : World, Calls Tryd.prog 12 #[.agg #[.int .i64 N, .slice A n c]] W fun e w' => e = .returned (.agg #[.int .i64 N, .slice A n' c]) ∧ Ext W w') (B : Bt w A n' ws) (hG : G a w) (hr : rightB N ws = true) (hp : plB N i = true) (hk : ¬ k = i) :
    Calls Tryd.prog 5 #[.agg #[.int .i64 N, .slice A n c], .int .i64 i, .int .i64 k, .bool on] w fun e w' => e = .returned (.bool true) ∧ Ext w w' := by
  obtain ⟨ws2, hws2⟩ : ∃ ws2, turnW i (i + 1) on ws = ws2 := ⟨_, rfl⟩
  have M := set_math hr hp on hws2 B.lt
  have ST0 := fun W (hW : Ext w W) => set_ok (a := a) N A n' c ws i on hr hp W (B.ext hW) (hG.ext hW)
  rw [hws2] at ST0
  have hkb : (k == i) = false := by rw [beq_eq_false_iff_ne]; exact hk
  obtain ⟨hv, e1, e2⟩ : ∃ hv, hasB N ws2 k = hv ∧ hasB N ws k = hv := ⟨_, M.2.2 k hk, rfl⟩
  rcases on with _ | _ <;> rcases hv with _ | _
  all_goals
    have SH := Lib.hid (fun W (hW : Ext w W) => shown_any (a := a) W (hG.ext hW))
    have CU := Lib.hid C
    clear C
    have ST := Lib.hid ST0
    clear ST0
    have RR := Lib.hid (fun A n c W (B4 : Bt W A n ws2) => M.1 ▸ right_any N A n c ws2 W B4)
    have HI := Lib.hid (fun A n c W (B4 : Bt W A n ws2) => M.2.1 ▸ has_any N A n c ws2 i W B4)
    have HK := Lib.hid (fun A n c W (B4 : Bt W A n ws2) => e1 ▸ has_any N A n c ws2 k W B4)
    have HB := Lib.hid (fun W (hW : Ext w W) => e2 ▸ has_any N A n' c ws k W (B.ext hW))
    clear e1 e2
    clear M hws2 hr hp hk
    clear B hG
    go_enter Tryd.func5, Tryd.ntmps5
    go_wp2_with (first
      | (go_at_call 11; refine (SH.out _ (ext1 _ _)).mono ?_; rintro e w1 ⟨rfl, h1⟩; have p0 := (at_new h1).cell 0; have p1 := (at_new h1).cell 1; simp only [List.getElem?_toArray, List.getElem?_cons_zero, List.getElem?_cons_succ] at p0 p1)
      | (go_at_call 12; refine (CU.out _).mono ?_; rintro e w2 ⟨rfl, h2⟩; replace h2 := Ext.trans h1 h2; clear p0 p1 h1; have p0 := (at_new h2).cell 0; have p1 := (at_new h2).cell 1; have q0 := (at_new h2).frozen 0; have q1 := (at_new h2).frozen 1; simp only [List.getElem?_toArray, List.getElem?_cons_zero, List.getElem?_cons_succ] at p0 p1; obtain ⟨b, hW⟩ := reborn (at_new h2) (Ext.trans (ext1 _ _) h2) (Nat.le_refl _) (.int .i64 N) (.slice A n' c); clear h2; have r0 := b.cell 0; have r1 := b.cell 1; simp only [List.getElem?_toArray, List.getElem?_cons_zero, List.getElem?_cons_succ] at r0 r1)
      | (go_at_call 26; (with_reducible refine (ST.out _ hW).mono ?_); rintro e w' ⟨A4, n4, c4, rfl, B4, hx⟩; replace B4 := B4.ext (ext1 _ (.cells #[.int .i64 N, .slice A4 n4 c4] 24)); replace hx := Ext.trans hx (ext1 _ (.cells #[.int .i64 N, .slice A4 n4 c4] 24)); have b4 := Blk.new w' #[.int .i64 N, .slice A4 n4 c4] 24; replace hW := Ext.trans hW hx; replace b := b.ext hx; clear hx; have r0 := b.cell 0; have r1 := b.cell 1; have s0 := b4.cell 0; have s1 := b4.cell 1; simp only [List.getElem?_toArray, List.getElem?_cons_zero, List.getElem?_cons_succ] at r0 r1 s0 s1))
    refine wp_region_on (by kernel_rfl) (by kernel_rfl) ?_
    have hx := fromOf hW
    repeat (go_big_quiet_step ((first | (go_at_call 15; with_reducible exact on_call (fun W hx => RR.out _ _ _ _ (B4.ext hx)) _) | (go_at_call 17; with_reducible exact on_call (fun W hx => HI.out _ _ _ _ (B4.ext hx)) _) | (go_at_call 17; with_reducible exact on_call (fun W hx => HK.out _ _ _ _ (B4.ext hx)) _) | (go_at_call 17; with_reducible exact on_call (fun W hx => HB.out _ (Ext.trans hW hx)) _))))
    refine wpQuiet_nil ?_
    intro W hZ
    go_wp2
    go_ret
    exact ⟨rfl, Ext.trans hW hZ⟩
theorem sets_walk (N : Int) (A : Option Addr) (n n' c : Nat) (ws : List Nat) (i k : Int) (on : Bool) (w : World)
    (C : ∀ W : World, Calls Tryd.prog 12 #[.agg #[.int .i64 N, .slice A n c]] W fun e w' => e = .returned (.agg #[.int .i64 N, .slice A n' c]) ∧ Ext W w') (B : Bt w A n' ws) (hG : G a w) :
    Calls Tryd.prog 5 #[.agg #[.int .i64 N, .slice A n c], .int .i64 i, .int .i64 k, .bool on] w fun e w' => e = .returned (.bool true) ∧ Ext w w' := by
  rcases hr : rightB N ws with _ | _
  · exact sets_wrong N A n n' c ws i k on w C B hG hr
  · rcases hp : plB N i with _ | _
    · exact sets_off N A n n' c ws i k on w C B hG hr hp
    · by_cases hk : k = i
      · exact sets_same N A n n' c ws i k on w C B hG hr hp hk
      · exact sets_else N A n n' c ws i k on w C B hG hr hp hk
end
end Go.Proofs.YtfldgiocaboelaaDoor
