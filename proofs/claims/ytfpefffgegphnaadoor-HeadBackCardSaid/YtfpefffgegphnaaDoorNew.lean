/- arena: sizeOf, New; and of the reference. -/
import Derived.Test.YtfpefffgegphnaaDoorSmall
import Derived.Deep.OwnRows
namespace Go.Proofs.YtfpefffgegphnaaDoor
open Go.RowKit Go
section
variable {a : Nat → Addr}

theorem info_u8 : (Tryd.prog.info? 5).map (fun i => (i.zero, i.size, i.bytes)) = some (some (.int .u8 0), 1, 1) := by kernel_rfl
theorem zeros_bts (n : Nat) : madeCells #[.int .u8 0] n = bts (List.replicate n 0) := by
  apply Array.ext
  · simp [madeCells, bts]
  · intro i h1 h2
    simp [madeCells, bts, bv, Nat.mod_one]
theorem make_bytes (n : Nat) (h : n ≤ 281474976710656) (w : World) :
    (Instr.makeSlice 47 (.int .i64 (n : Int)) (.int .i64 (n : Int))).run Tryd.prog w = .ok (.slice (some ⟨w.heap.size, 0, none⟩) n n) (w.alloc (.cells (bts (List.replicate n 0)) 5)) := by
  rw [← zeros_bts]
  exact run_make_row' (P := Tryd.prog) 47 5 (.int .u8 0) 1 Tryd.underlying47 info_u8 rfl .i64 .i64 n (by omega) (by omega) w

set_option maxHeartbeats 1000000 in
theorem sizeOf_no (x : Int) (h : ¬ (1 ≤ x ∧ x ≤ 32)) (hx : -9223372036854775808 ≤ x ∧ x ≤ 9223372036854775807) (w : World) (hG : G a w) (hJ' : JG w) :
    Calls Tryd.prog 36 #[.int .i64 x] w fun e w' => e = .returned (.tuple #[.int .i64 0, eG a]) ∧ Ext w w' := by
  obtain ⟨a0, a2, a3, hJ⟩ := hJ'
  have hp : J.placeB (wrap64 (x - 1)) 31 127 = false := by
    rw [Bool.eq_false_iff]; intro hh; simp only [J.placeB, Bool.and_eq_true, decide_eq_true_eq] at hh; unfold wrap64 at hh; omega
  have JN := Lib.hid (J.join_no (a0 := a0) (a2 := a2) (a3 := a3) (wrap64 (x - 1)) 31 127 hp w hJ)
  have Z := Lib.hid (fun W (hW : Ext w W) => (hG.ext hW).e.c 1 (by decide))
  clear hJ hG hp
  generalize hy : wrap64 (x - 1) = y at *
  go_enter Tryd.func36, Tryd.ntmps36
  go_wp2_with (first | (go_at_call 51; refine (JN.out).mono ?_; rintro e w1 ⟨rfl, h1⟩; have z := Z.out _ h1; simp only [esA, List.getD_cons_zero, List.getD_cons_succ] at z))
  go_region
  all_goals
    go_wp2
    go_ret2
    exact ⟨rfl, h1.drew⟩

set_option maxHeartbeats 1000000 in
theorem sizeOf_ok (n : Nat) (h1 : 1 ≤ n) (h2 : n ≤ 32) (w : World) (_hG : G a w) (hJ' : JG w) :
    Calls Tryd.prog 36 #[.int .i64 (n : Nat)] w fun e w' => e = .returned (.tuple #[.int .i64 ((4096 * n : Nat) : Int), .nilIface]) ∧ Ext w w' := by
  obtain ⟨a0, a2, a3, hJ⟩ := hJ'
  have JN := Lib.hid (J.join_ok (a0 := a0) (a2 := a2) (a3 := a3) ((n : Int) - 1) 31 127 (by omega) (by omega) (by omega) w hJ)
  clear hJ _hG
  have h3 : (1 : Int) ≤ n := by omega
  have h4 : (n : Int) ≤ 32 := by omega
  go_enter Tryd.func36, Tryd.ntmps36
  go_wp2_with (first | (go_at_call 51; refine (JN.out).mono ?_; rintro e w1 ⟨rfl, h1⟩))
  go_ret2
  exact ⟨ret_val (show Value.tuple #[.int .i64 (((n : Int) - 1) * 4096 + 3968 + 127 + 1), .nilIface] = .tuple #[.int .i64 ((4096 * n : Nat) : Int), .nilIface] by rw [show ((n : Int) - 1) * 4096 + 3968 + 127 + 1 = ((4096 * n : Nat) : Int) by omega]), h1⟩

set_option maxHeartbeats 1000000 in
theorem new_no (x : Int) (h : ¬ (1 ≤ x ∧ x ≤ 32)) (hx : -9223372036854775808 ≤ x ∧ x ≤ 9223372036854775807) (w : World) (hG : G a w) (hJ' : JG w) :
    Calls Tryd.prog 19 #[.int .i64 x] w fun e w' => e = .returned (.tuple #[.pointer none, .int .i64 2]) ∧ Ext w w' := by
  have S := Lib.hid (sizeOf_no x h hx w hG hJ')
  have T := Lib.hid (fun b t W (hW : Ext w W) (hB : Blk W b #[eG a] t) => (tell1 (a := a) 2 (by decide) 2 rfl b t W (hG.ext hW) hB).mono fun e w' ⟨he, hw⟩ => (⟨he, hw ▸ hW⟩ : _ ∧ Ext w w'))
  clear hG hJ'
  go_enter Tryd.func19, Tryd.ntmps19
  go_wp2_with (first
    | (go_at_call 36; refine S.out.mono ?_; rintro e w1 ⟨rfl, hX⟩)
    | (go_at_call 37; refine (T.out _ _ _ (Ext.trans hX (ext1 _ _)) (Blk.new _ _ _)).mono ?_; rintro e w3 ⟨rfl, h3⟩; replace hX := h3; clear h3))
  go_ret2
  exact ⟨rfl, hX⟩

/-- A new arena of n blocks, in w'. -/
def NewR (w : World) (n : Nat) (e : Ending) (w' : World) : Prop :=
  ∃ p g, e = .returned (.tuple #[ptr p, .int .i64 0]) ∧ w.heap.size ≤ p ∧ w.heap.size ≤ g ∧ Ext w w' ∧ Ar w' p g (List.replicate (4096 * n) 0)
set_option maxHeartbeats 1000000 in
theorem new_ok (n : Nat) (h1 : 1 ≤ n) (h2 : n ≤ 32) (w : World) (hG : G a w) (hJ' : JG w) : Calls Tryd.prog 19 #[.int .i64 (n : Nat)] w (NewR w n) := by
  have S := Lib.hid (sizeOf_ok n h1 h2 w hG hJ')
  have T := Lib.hid (fun b t W (hW : Ext w W) (hB : Blk W b #[.nilIface] t) => (tell1 (a := a) 0 (by decide) 0 rfl b t W (hG.ext hW) hB).mono fun e w' ⟨he, hw⟩ => (⟨he, hw ▸ hW⟩ : _ ∧ Ext w w'))
  clear hG hJ'
  obtain ⟨N, hN⟩ : ∃ N, 4096 * n = N := ⟨_, rfl⟩
  rw [hN] at S
  have hmk := fun w => make_bytes N (by omega) w
  have HN := Lib.hid (And.intro hN (And.intro h1 h2))
  clear h1 h2 hN
  go_enter Tryd.func19, Tryd.ntmps19
  go_wp2_with (first
    | (go_at_call 36; refine S.out.mono ?_; rintro e w1 ⟨rfl, hX⟩)
    | (go_at_call 37; refine (T.out _ _ _ (Ext.trans hX (ext1 _ _)) (Blk.new _ _ _)).mono ?_; rintro e w3 ⟨rfl, h3⟩; replace hX := h3; clear h3))
  go_ret2
  have hz := hX.size
  refine ⟨w3.heap.size + 1, w3.heap.size, rfl, ?_, ?_, Ext.trans hX (ext2 _ _ _), ⟨?_, ?_, ?_, ?_⟩⟩
  · omega
  · omega
  · have := Blk.new (w3.alloc (.cells (bts (List.replicate N 0)) 5)) #[.slice (some ⟨w3.heap.size, 0, none⟩) N N] 68
    rw [HN.out.1, List.length_replicate]
    simpa using this
  · rw [HN.out.1]
    exact (Blk.new w3 (bts (List.replicate N 0)) 5).alloc _
  · have := HN.out; simp; omega
  · have := HN.out; simp; omega
end
end Go.Proofs.YtfpefffgegphnaaDoor
