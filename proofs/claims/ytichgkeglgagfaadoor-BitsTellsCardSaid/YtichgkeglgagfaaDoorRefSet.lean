/- The reference's Set. -/
import Derived.Test.YtichgkeglgagfaaDoorRefFill
namespace Go.Proofs.YtichgkeglgagfaaDoor
open Go.RowKit Go
/-- Words are not in a block of bits. -/
theorem Bt.notBits {W : World} {A : Option Addr} {n : Nat} {ws : List Nat} (h : Bt W A n ws) {R : Nat} {x : Int} {a : Option Addr} {l c : Nat} {t : TypeId} (hR : Blk W R #[.int .i64 x, .slice a l c] t) (hn : 0 < n) : ∀ ad, A = some ad → ad.block ≠ R := by
  rintro ad rfl rfl
  obtain ⟨ad', e, hb, hc⟩ := h.rd hn
  cases e
  have := hc 0 hn
  simp only [World.cell?, block_of_add, show W.heap[ad.block]? = _ from hR] at this
  generalize (ad.add 0).off = o at this
  rcases o with _ | _ | o <;> simp at this
theorem Bt.otherBits {W : World} {A : Option Addr} {n : Nat} {ws : List Nat} (h : Bt W A n ws) {R : Nat} {x : Int} {a : Option Addr} {l c : Nat} {t : TypeId} (hR : Blk W R #[.int .i64 x, .slice a l c] t) (u : Int) (a' : Option Addr) (l' c' : Nat) :
    Bt ((W.setCell ⟨R, 0, none⟩ (.int .i64 u)).setCell ⟨R, 1, none⟩ (.slice a' l' c')) A n ws :=
  ⟨h.len, h.lt, h.le, fun hn => by
    have hne := h.notBits hR hn
    obtain ⟨ad, rfl, hb, hc⟩ := h.rd hn
    have hne := hne ad rfl
    refine ⟨ad, rfl, by simpa using hb, fun j hj => ?_⟩
    rw [World.cell?_setCell_other _ _ _ _ (by intro e; have := congrArg Addr.block e; rw [block_of_add] at this; exact hne (by simpa using this.symm)), World.cell?_setCell_other _ _ _ _ (by intro e; have := congrArg Addr.block e; rw [block_of_add] at this; exact hne (by simpa using this.symm)), hc j hj]⟩
section
set_option maxHeartbeats 2000000 in
theorem refSet_no (N : Int) (A : Option Addr) (n c : Nat) (ws : List Nat) (i : Int) (on : Bool) (k : Int) (hk : (rightB N ws = false ∧ k = 20) ∨ (rightB N ws = true ∧ plB N i = false ∧ k = 21)) (w : World) (h : Bt w A n ws) :
    Calls Tryd.prog 27 #[.agg #[.int .i64 N, .slice A n c], .int .i64 i, .bool on] w (NoR w k) := by
  have E2 := Lib.hid (ext2 w (.cells #[.int .i64 N, .slice A n c] 24) (.cells #[.int .i64 0, .slice none 0 0] 24))
  rcases hk with ⟨hr, rfl⟩ | ⟨hr, hp, rfl⟩
  · have RR := Lib.hid (fun W (hW : Ext w W) => hr ▸ refRight_any N A n c ws W (h.ext hW))
    clear h hr
    go_enter Tryd.func27, Tryd.ntmps27
    go_wp2_with (go_at_call 16; refine (RR.out _ E2.out).mono ?_; rintro e w1 ⟨rfl, h1⟩; have p0 := (at_new2 h1).cell 0; have p1 := (at_new2 h1).cell 1; have q0 := (at_new2 h1).frozen 0; have q1 := (at_new2 h1).frozen 1; simp only [List.getElem?_toArray, List.getElem?_cons_zero, List.getElem?_cons_succ] at p0 p1)
    obtain ⟨s0, s1, hE⟩ := res_store (w := w) (u := .int .i64 0) (v := .slice none 0 0) (at_new2 h1) (Ext.trans E2.out h1) (Nat.le_succ _)
    exact bodyPost_ret (v := .tuple #[.agg #[.int .i64 0, .slice none 0 0], .int .i64 20]) (by simp [results, Tryd.results27, go_sem, s0, s1]) rfl ⟨rfl, hE⟩
  · have RR := Lib.hid (fun W (hW : Ext w W) => hr ▸ refRight_any N A n c ws W (h.ext hW))
    have hn : i < 0 ∨ (0 ≤ i ∧ N ≤ i) := by
      simp only [plB, Bool.and_eq_false_iff, decide_eq_false_iff_not] at hp
      omega
    clear h hr hp
    rcases hn with g | ⟨g0, g⟩
    all_goals
      go_enter Tryd.func27, Tryd.ntmps27
      go_wp2_with (go_at_call 16; refine (RR.out _ E2.out).mono ?_; rintro e w1 ⟨rfl, h1⟩; have p0 := (at_new2 h1).cell 0; have p1 := (at_new2 h1).cell 1; have q0 := (at_new2 h1).frozen 0; have q1 := (at_new2 h1).frozen 1; have r0 := (at_old h1).cell 0; have r1 := (at_old h1).cell 1; simp only [List.getElem?_toArray, List.getElem?_cons_zero, List.getElem?_cons_succ] at p0 p1 r0 r1)
      obtain ⟨s0, s1, hE⟩ := res_store (w := w) (u := .int .i64 0) (v := .slice none 0 0) (at_new2 h1) (Ext.trans E2.out h1) (Nat.le_succ _)
      exact bodyPost_ret (v := .tuple #[.agg #[.int .i64 0, .slice none 0 0], .int .i64 21]) (by simp [results, Tryd.results27, go_sem, s0, s1]) rfl ⟨rfl, hE⟩

set_option maxHeartbeats 2000000 in
theorem refSet_ok (N : Int) (A : Option Addr) (n c : Nat) (ws : List Nat) (i : Int) (on : Bool) (hr : rightB N ws = true) (hp : plB N i = true) (w : World) (h : Bt w A n ws) :
    Calls Tryd.prog 27 #[.agg #[.int .i64 N, .slice A n c], .int .i64 i, .bool on] w (BitsR w N (turnW i (i + 1) on ws)) := by
  have E2 := Lib.hid (ext2 w (.cells #[.int .i64 N, .slice A n c] 24) (.cells #[.int .i64 0, .slice none 0 0] 24))
  have RR := Lib.hid (fun W (hW : Ext w W) => hr ▸ refRight_any N A n c ws W (h.ext hW))
  have P := hp
  simp only [plB, Bool.and_eq_true, decide_eq_true_eq] at P
  obtain ⟨g0, g1⟩ := P
  have n1 := ((right_iff N ws).1 hr).n1
  have FF := Lib.hid (fun W (hW : Ext w W) => refFill_ok N A n c ws i (i + 1) on hr (by simp [rngB]; omega) W (h.ext hW))
  clear h hr hp
  go_enter Tryd.func27, Tryd.ntmps27
  go_wp2_with (first
    | (go_at_call 16; refine (RR.out _ E2.out).mono ?_; rintro e w1 ⟨rfl, h1⟩; have p0 := (at_new2 h1).cell 0; have p1 := (at_new2 h1).cell 1; have q0 := (at_new2 h1).frozen 0; have q1 := (at_new2 h1).frozen 1; have r0 := (at_old h1).cell 0; have r1 := (at_old h1).cell 1; simp only [List.getElem?_toArray, List.getElem?_cons_zero, List.getElem?_cons_succ] at p0 p1 r0 r1)
    | (go_at_call 29; refine (FF.out _ (Ext.trans E2.out h1)).mono ?_; rintro e w2 ⟨A2, n2, c2, rfl, B2, h2⟩; have p0 := (at_new2 (Ext.trans h1 h2)).cell 0; have p1 := (at_new2 (Ext.trans h1 h2)).cell 1; have q0 := (at_new2 (Ext.trans h1 h2)).frozen 0; have q1 := (at_new2 (Ext.trans h1 h2)).frozen 1; simp only [List.getElem?_toArray, List.getElem?_cons_zero, List.getElem?_cons_succ] at p0 p1))
  obtain ⟨s0, s1, hE⟩ := res_store (w := w) (u := .int .i64 N) (v := .slice A2 n2 c2) (at_new2 (Ext.trans h1 h2)) (Ext.trans E2.out (Ext.trans h1 h2)) (Nat.le_succ _)
  exact bodyPost_ret (v := .tuple #[.agg #[.int .i64 N, .slice A2 n2 c2], .int .i64 0]) (by simp [results, Tryd.results27, go_sem, s0, s1]) rfl ⟨A2, n2, c2, rfl, B2.otherBits (at_new2 (Ext.trans h1 h2)) _ _ _ _, hE⟩
end
end Go.Proofs.YtichgkeglgagfaaDoor
