/- desc: noLength, end, shaped. -/
import Derived.Test.YtgmpcinlkiiboaaGreatDoorEnvD
namespace Go.Proofs.YtgmpcinlkiiboaaGreatDoor
open Go.RowKit Go
theorem code_nil {v : Value} {k : Int} (h : Code v k) (h0 : k = 0) : v = .nilIface := by
  rcases h with ⟨rfl, _⟩ | ⟨h, _⟩
  · rfl
  · exact absurd h0 h
theorem code_err {v : Value} {k : Int} (h : Code v k) (h0 : k ≠ 0) : ∃ te pe, v = .iface 62 (.agg #[.int .i64 k, .iface te pe]) := by
  rcases h with ⟨_, h⟩ | ⟨_, te, pe, rfl⟩
  · exact absurd h h0
  · exact ⟨te, pe, rfl⟩
def limB (t y : Int) : Bool := decide (0 ≤ y) && (decide (y ≤ 0) || !decide (t = 0)) && decide (y ≤ 131072)
theorem lenB_lim (d : DescR) (y : Int) : lenB d y = (limB d.elem y && decide (8 + d.size + y * d.elem ≤ 131072)) := by
  have e : bytesB d y ≤ 131072 ↔ 8 + d.size + y * d.elem ≤ 131072 := by unfold bytesB; omega
  unfold lenB limB
  rw [decide_eq_decide.2 e]
section
set_option maxHeartbeats 4000000 in
theorem noLength_is (A B : Option Addr) (n m c c' : Nat) (s t y : Int) (w : World) (hG : G w) :
    Calls Tryz.prog 38 #[.agg #[.int .i64 s, .slice A n c, .int .i64 t, .slice B m c'], .int .i64 y] w fun e w' => (∃ v, e = .returned v ∧ Code v (codeI (limB t y) 41)) ∧ Ext w w' := by
  obtain ⟨te, pe, hc⟩ := hG.d1
  have hsz := hG.sz
  have hc1 : (w.alloc (.cells #[.int .i64 s, .slice A n c, .int .i64 t, .slice B m c'] 24)).cell? ⟨1, 0, none⟩ = some (.iface te pe) := ((ext1 w _).cell (p := ⟨1, 0, none⟩) (by show 1 < w.heap.size; omega)).trans hc
  have E1 := ext1 w (.cells #[.int .i64 s, .slice A n c, .int .i64 t, .slice B m c'] 24)
  have HE := Lib.hid E1
  have HC := fun b => Lib.hid (code_unless b 41 (by decide) te pe)
  clear E1 hG hc
  by_cases h0 : t = 0
  · subst h0
    by_cases h1 : 0 ≤ y
    · by_cases h2 : y ≤ 0
      · have HL := Lib.hid (show limB 0 y = true by unfold limB; rw [show decide (0 ≤ y) = true from decide_eq_true h1, show decide (y ≤ 0) = true from decide_eq_true h2, show decide (y ≤ 131072) = true from decide_eq_true (by omega)]; rfl)
        have d2 : decide (y ≤ 0) = true := decide_eq_true h2
        go_enter Tryz.func38, Tryz.ntmps38
        go_wp2_with (go_at_call 28; refine (unless_is _ _ _ _ _).mono ?_; rintro e w' ⟨rfl, k1⟩)
        go_ret
        exact ⟨⟨_, rfl, by rw [HL.out]; exact (HC true).out⟩, Ext.trans HE.out k1⟩
      · have HL := Lib.hid (show limB 0 y = false by unfold limB; rw [show decide (y ≤ 0) = false from decide_eq_false h2]; simp)
        have d2 : decide (y ≤ 0) = false := decide_eq_false h2
        go_enter Tryz.func38, Tryz.ntmps38
        go_wp2_with (go_at_call 28; refine (unless_is _ _ _ _ _).mono ?_; rintro e w' ⟨rfl, k1⟩)
        go_ret
        exact ⟨⟨_, rfl, by rw [HL.out]; exact (HC false).out⟩, Ext.trans HE.out k1⟩
    · have HL := Lib.hid (show limB 0 y = false by unfold limB; rw [show decide (0 ≤ y) = false from decide_eq_false h1]; rfl)
      go_enter Tryz.func38, Tryz.ntmps38
      go_wp2_with (go_at_call 28; refine (unless_is _ _ _ _ _).mono ?_; rintro e w' ⟨rfl, k1⟩)
      go_ret
      exact ⟨⟨_, rfl, by rw [HL.out]; exact (HC false).out⟩, Ext.trans HE.out k1⟩
  · have b0 : (t == 0) = false := by simpa using h0
    by_cases h1 : 0 ≤ y
    · by_cases h2 : y ≤ 131072
      · have HL := Lib.hid (show limB t y = true by unfold limB; rw [show decide (0 ≤ y) = true from decide_eq_true h1, show decide (t = 0) = false from decide_eq_false h0, show decide (y ≤ 131072) = true from decide_eq_true h2]; simp)
        have d2 : decide (y ≤ 131072) = true := decide_eq_true h2
        go_enter Tryz.func38, Tryz.ntmps38
        go_wp2_with (go_at_call 28; refine (unless_is _ _ _ _ _).mono ?_; rintro e w' ⟨rfl, k1⟩)
        go_ret
        exact ⟨⟨_, rfl, by rw [HL.out]; exact (HC true).out⟩, Ext.trans HE.out k1⟩
      · have HL := Lib.hid (show limB t y = false by unfold limB; rw [show decide (y ≤ 131072) = false from decide_eq_false h2]; simp)
        have d2 : decide (y ≤ 131072) = false := decide_eq_false h2
        go_enter Tryz.func38, Tryz.ntmps38
        go_wp2_with (go_at_call 28; refine (unless_is _ _ _ _ _).mono ?_; rintro e w' ⟨rfl, k1⟩)
        go_ret
        exact ⟨⟨_, rfl, by rw [HL.out]; exact (HC false).out⟩, Ext.trans HE.out k1⟩
    · have HL := Lib.hid (show limB t y = false by unfold limB; rw [show decide (0 ≤ y) = false from decide_eq_false h1]; rfl)
      go_enter Tryz.func38, Tryz.ntmps38
      go_wp2_with (go_at_call 28; refine (unless_is _ _ _ _ _).mono ?_; rintro e w' ⟨rfl, k1⟩)
      go_ret
      exact ⟨⟨_, rfl, by rw [HL.out]; exact (HC false).out⟩, Ext.trans HE.out k1⟩
theorem end_is (A B : Option Addr) (n m c c' : Nat) (s t y z : Int) (h0 : 0 ≤ s ∧ s ≤ 1024) (h1 : 0 ≤ t ∧ t ≤ 256) (h2 : 0 ≤ y ∧ y ≤ 131072) (w : World) :
    Calls Tryz.prog 40 #[.agg #[.int .i64 s, .slice A n c, .int .i64 t, .slice B m c', .int .i64 y, .int .i64 z]] w fun e w' => e = .returned (.int .i64 (s + y * t)) ∧ Ext w w' := by
  obtain ⟨S, rfl⟩ : ∃ k : Nat, s = k := ⟨s.toNat, by omega⟩
  obtain ⟨T, rfl⟩ : ∃ k : Nat, t = k := ⟨t.toNat, by omega⟩
  obtain ⟨Y, rfl⟩ : ∃ k : Nat, y = k := ⟨y.toNat, by omega⟩
  have u0 : (0 : Int) ≤ (Y : Int) * T := Int.mul_nonneg (by omega) (by omega)
  have u1 : (Y : Int) * T ≤ 33554432 := by have := Int.mul_le_mul (show (Y : Int) ≤ 131072 by omega) (show (T : Int) ≤ 256 by omega) (by omega) (by omega); omega
  generalize hM : (Y : Int) * T = M at *
  go_enter Tryz.func40, Tryz.ntmps40
  go_wp2
  go_ret
  exact ⟨rfl, ext1 _ _⟩
end
end Go.Proofs.YtgmpcinlkiiboaaGreatDoor
