/- selionlaw02: Cut. -/
import Derived.Test.YtichgkeglgagfaaDoorShown
namespace Go.Proofs.YtichgkeglgagfaaDoor
open Go.RowKit Go
section
set_option maxHeartbeats 2000000 in
theorem cut_any (N : Int) (ad : Addr) (n c : Nat) (hn : n ≤ c) (hc : c ≤ 9223372036854775807) (w : World) :
    Calls Tryd.prog 12 #[.agg #[.int .i64 N, .slice (some ad) n c]] w fun e w' => e = .returned (.agg #[.int .i64 N, .slice (some ad) (min n 12) c]) ∧ Ext w w' := by
  have E0 := ext1 w (.cells #[.int .i64 N, .slice (some ad) n c] 24)
  by_cases h : n ≤ 12
  · have hm : min n 12 = n := by omega
    have h5 : (n : Int) ≤ 12 := by omega
    rw [hm]
    have HE := Lib.hid (And.intro E0 hn)
    clear E0 hm
    go_enter Tryd.func12, Tryd.ntmps12
    go_wp2
    refine wp_region_tail 11 10 rfl (by kernel_rfl) (by kernel_rfl) (by kernel_rfl) ?_
    apply Exists.intro
    refine ⟨fun c => ?_, fun W hW => ?_⟩
    · have hx := fun (o : From c.w) p h => From.cell2 c.h o p h
      simp only [List.take_succ_cons, List.take_zero]
      repeat (go_big_quiet_step (fail))
      exact wpQuiet_nil rfl
    · simp only [List.drop_succ_cons, List.drop_zero]
      have p0 := (at_new2 hW).cell 0
      have p1 := (at_new2 hW).cell 1
      have q0 := (at_new2 hW).frozen 0
      have q1 := (at_new2 hW).frozen 1
      simp at p0 p1
      have HW := Lib.hid hW
      clear hW
      go_wp2
      obtain ⟨s0, s1, hE⟩ := res_store (w := w) (u := .int .i64 N) (v := .slice (some ad) n c) (at_new2 HW.out) (Ext.trans (ext2 _ _ _) HW.out) (by omega)
      exact bodyPost_ret (v := .agg #[.int .i64 N, .slice (some ad) n c]) (by simp [results, Tryd.results12, go_sem, s0, s1]) rfl ⟨rfl, hE⟩
  · have hm : min n 12 = 12 := by omega
    have h5 : ¬ (n : Int) ≤ 12 := by omega
    have h6 : 12 ≤ c := by omega
    rw [hm]
    have HE := Lib.hid (And.intro E0 hn)
    clear E0 hm
    go_enter Tryd.func12, Tryd.ntmps12
    go_wp2
    refine wp_region_tail 11 10 rfl (by kernel_rfl) (by kernel_rfl) (by kernel_rfl) ?_
    apply Exists.intro
    refine ⟨fun c => ?_, fun W hW => ?_⟩
    · have hx := fun (o : From c.w) p h => From.cell2 c.h o p h
      simp only [List.take_succ_cons, List.take_zero]
      repeat (go_big_quiet_step (fail))
      exact wpQuiet_nil rfl
    · simp only [List.drop_succ_cons, List.drop_zero]
      have p0 := (at_new2 hW).cell 0
      have p1 := (at_new2 hW).cell 1
      have q0 := (at_new2 hW).frozen 0
      have q1 := (at_new2 hW).frozen 1
      simp at p0 p1
      have HW := Lib.hid hW
      clear hW
      go_wp2
      obtain ⟨s0, s1, hE⟩ := res_store (w := w) (u := .int .i64 N) (v := .slice (some ad) 12 c) (at_new2 HW.out) (Ext.trans (ext2 _ _ _) HW.out) (by omega)
      exact bodyPost_ret (v := .agg #[.int .i64 N, .slice (some ad) 12 c]) (by simp [results, Tryd.results12, go_sem, s0, s1]) rfl ⟨rfl, hE⟩
set_option maxHeartbeats 2000000 in
theorem cut_nil (N : Int) (w : World) :
    Calls Tryd.prog 12 #[.agg #[.int .i64 N, .slice none 0 0]] w fun e w' => e = .returned (.agg #[.int .i64 N, .slice none 0 0]) ∧ Ext w w' := by
  have E0 := ext1 w (.cells #[.int .i64 N, .slice none 0 0] 24)
  have hn := Nat.le_refl 0
  have hm := Nat.le_refl 0
  have HE := Lib.hid (And.intro E0 hn)
  clear E0 hm
  go_enter Tryd.func12, Tryd.ntmps12
  go_wp2
  refine wp_region_tail 11 10 rfl (by kernel_rfl) (by kernel_rfl) (by kernel_rfl) ?_
  apply Exists.intro
  refine ⟨fun c => ?_, fun W hW => ?_⟩
  · have hx := fun (o : From c.w) p h => From.cell2 c.h o p h
    simp only [List.take_succ_cons, List.take_zero]
    repeat (go_big_quiet_step (fail))
    exact wpQuiet_nil rfl
  · simp only [List.drop_succ_cons, List.drop_zero]
    have p0 := (at_new2 hW).cell 0
    have p1 := (at_new2 hW).cell 1
    have q0 := (at_new2 hW).frozen 0
    have q1 := (at_new2 hW).frozen 1
    simp at p0 p1
    have HW := Lib.hid hW
    clear hW
    go_wp2
    obtain ⟨s0, s1, hE⟩ := res_store (w := w) (u := .int .i64 N) (v := .slice none 0 0) (at_new2 HW.out) (Ext.trans (ext2 _ _ _) HW.out) (by omega)
    exact bodyPost_ret (v := .agg #[.int .i64 N, .slice none 0 0]) (by simp [results, Tryd.results12, go_sem, s0, s1]) rfl ⟨rfl, hE⟩
/-- An argument's bits: any number of words. -/
structure Ag (W : World) (A : Option Addr) (n c : Nat) (ws : List Nat) : Prop where
  len : ws.length = n
  lt : W32 ws
  cap : n ≤ c
  big : c ≤ 9223372036854775807
  nil : A = none → c = 0
  rd : Rd W A n fun j => .int .u32 (wd ws j : Nat)
theorem Ag.bt {W : World} {A : Option Addr} {n c : Nat} {ws : List Nat} (h : Ag W A n c ws) : Bt W A (min n 12) (ws.take 12) :=
  ⟨by rw [List.length_take, h.len, Nat.min_comm], fun x hx => h.lt x (List.mem_of_mem_take hx), by omega, fun hn => by
    obtain ⟨ad, e, hb, hc⟩ := h.rd (by omega)
    refine ⟨ad, e, hb, fun j hj => ?_⟩
    rw [hc j (by omega)]
    simp only [wd]
    congr 3
    rw [List.getD_eq_getElem?_getD, List.getD_eq_getElem?_getD, List.getElem?_take_of_lt (by omega)]⟩
theorem Ag.cut (N : Int) {w : World} {A : Option Addr} {n c : Nat} {ws : List Nat} (h : Ag w A n c ws) (W : World) :
    Calls Tryd.prog 12 #[.agg #[.int .i64 N, .slice A n c]] W fun e w' => e = .returned (.agg #[.int .i64 N, .slice A (min n 12) c]) ∧ Ext W w' := by
  rcases A with _ | ad
  · have hc := h.nil rfl
    have hn := h.cap
    obtain rfl : c = 0 := hc
    obtain rfl : n = 0 := by omega
    exact cut_nil N W
  · exact cut_any N ad n c h.cap h.big W
/-- A variable of two cells, written anew. -/
theorem reborn {w w2 : World} {R : Nat} {x y : Value} {t : TypeId} (hB : Blk w2 R #[x, y] t) (hE : Ext w w2) (hR : w.heap.size ≤ R) (u v : Value) :
    Blk ((w2.setCell ⟨R, 0, none⟩ u).setCell ⟨R, 1, none⟩ v) R #[u, v] t ∧ Ext w ((w2.setCell ⟨R, 0, none⟩ u).setCell ⟨R, 1, none⟩ v) :=
  ⟨(hB.set 0 u).set 1 v, (hE.setCell (p := ⟨R, 0, none⟩) hR _).setCell (p := ⟨R, 1, none⟩) hR _⟩
theorem fromOf {w W : World} (_ : Ext w W) : ∀ (o : From W) (p : Addr), (W.cell? p).isSome = true → o.w.cell? p = W.cell? p := fun o p h => From.cell o p h
end
end Go.Proofs.YtichgkeglgagfaaDoor
