/- Slices of ints that read as lists; the reference's small calls over them. -/
import Derived.Test.YtgmpcinlkiiboaaGreatDoorSlotsP
import Derived.Test.YtgmpcinlkiiboaaGreatDoorDraw
import Derived.Test.YtgmpcinlkiiboaaGreatDoorChecked
import Derived.WalkKit
import Derived.WalkSpells
import Derived.WalkLawsBesides
import Derived.Lib.Hide
import Derived.BigQuiet
import Derived.Deep.QuietTactic
import Derived.Deep.LoopGhost
namespace Go.Proofs.YtgmpcinlkiiboaaGreatDoor
open Go.RowKit Go
/-- The slice (A, n) holds the numbers l. -/
def Il (W : World) (A : Option Addr) (n : Nat) (l : List Int) : Prop := l.length = n ∧ Rd W A n (fun j => .int .i64 (l.getD j 0))
theorem Il.ext {W W' : World} {A : Option Addr} {n : Nat} {l : List Int} (h : Il W A n l) (k : Ext W W') : Il W' A n l := ⟨h.1, h.2.ext k⟩
theorem Il.at_ {W : World} {A : Option Addr} {n : Nat} {l : List Int} (h : Il W A n l) {k : Nat} (hk : k < n) : ∃ ad, A = some ad ∧ ad.block < W.heap.size ∧ ∀ j, j < n → W.cell? (ad.add j) = some (.int .i64 (l.getD j 0)) := h.2 (by omega)
theorem ext_drewD (w : World) (n : Nat) : Ext w (w.drewN n) := by
  induction n with
  | zero => exact Ext.refl _
  | succ n ih => exact ih.drew
theorem ret_val {u v : Value} (h : u = v) : Ending.returned u = .returned v := by rw [h]
theorem rb {a b : Bool} (h : a = b) : Ending.returned (.bool a) = .returned (.bool b) := by rw [h]
section
set_option maxHeartbeats 2000000 in
theorem ints_is (A A' : Option Addr) (n n' c c' : Nat) (l l' : List Int) (hn : n ≤ 1000000) (w : World) (h : Il w A n l) (h' : Il w A' n' l') :
    Calls Tryz.prog 15 #[.slice A n c, .slice A' n' c'] w fun e w' => e = .returned (.bool (decide (l = l'))) ∧ Ext w w' := by
  by_cases hl : n = n'
  · subst hl
    have hlen := h.1.trans h'.1.symm
    have H := Lib.hid (And.intro h (And.intro h' hlen))
    clear h h' hlen
    go_enter Tryz.func15, Tryz.ntmps15
    go_wp2
    go_loopg [5] n (fun m i wr => ∃ k : Nat, k + m = n ∧ i = .int .i64 k ∧ l.take k = l'.take k ∧ Ext w wr)
    case atStart => exact ⟨0, by omega, rfl, rfl, Ext.refl _⟩
    case round =>
      obtain ⟨k, hk, rfl, ht, hE⟩ := hrel
      by_cases hlt : k < n
      · obtain ⟨ad, rfl, hb, hcell⟩ := (H.out.1.ext hE).at_ hlt
        obtain ⟨ad', rfl, hb', hcell'⟩ := (H.out.2.1.ext hE).at_ hlt
        have ck := hcell k hlt
        have ck' := hcell' k hlt
        have h5 : (k : Int) < n := by omega
        have h6 : (k : Int) + 1 ≤ 1000000 := by omega
        have e1 : l.take (k + 1) = l.take k ++ [l.getD k 0] := by rw [List.take_add_one, List.getD, List.getElem?_eq_getElem (by rw [H.out.1.1]; exact hlt)]; rfl
        have e2 : l'.take (k + 1) = l'.take k ++ [l'.getD k 0] := by rw [List.take_add_one, List.getD, List.getElem?_eq_getElem (by rw [H.out.2.1.1]; exact hlt)]; rfl
        have HE := Lib.hid (And.intro hE (And.intro hk (And.intro ht (And.intro e1 e2))))
        clear hE hcell hcell' hk ht e1 e2
        generalize hx : l.getD k 0 = x at *
        generalize hy : l'.getD k 0 = y at *
        by_cases hxy : x = y
        · subst hxy
          have hb1 : (x != x) = false := by simp
          clear hx hy
          go_wp2
          go_quiet (fail)
          go_wp2
          go_roundg (gk - 1)
          case measure => have := HE.out.2.1; omega
          case rel => exact ⟨k + 1, by have := HE.out.2.1; omega, by go_num, by rw [HE.out.2.2.2.1, HE.out.2.2.2.2, HE.out.2.2.1], Ext.trans HE.out.1 (ext_drewD _ _)⟩
        · have hb1 : (x != y) = true := by simpa using hxy
          have HN := Lib.hid (show decide (l = l') = false from decide_eq_false (fun e => hxy (by rw [← hx, ← hy, e])))
          clear hx hy hxy
          go_wp2
          go_quiet (fail)
          go_wp2
          go_ret
          exact ⟨rb (by rw [HN.out]), Ext.trans HE.out.1 (ext_drewD _ _)⟩
      · obtain rfl : k = n := by omega
        have h5 : ¬ (k : Int) < k := by omega
        have HN := Lib.hid (show decide (l = l') = true from decide_eq_true (by rw [← List.take_of_length_le (Nat.le_of_eq H.out.1.1), ← List.take_of_length_le (l := l') (Nat.le_of_eq H.out.2.1.1), ht]))
        have HE := Lib.hid hE
        clear hE ht hk
        go_wp2
        go_ret
        exact ⟨rb (by rw [HN.out]), HE.out⟩
  · have HN := Lib.hid (show decide (l = l') = false from decide_eq_false (fun e => hl (by rw [← h.1, ← h'.1, e])))
    have h5 : ((n : Int) != (n' : Int)) = true := by rw [bne_iff_ne]; omega
    clear h h'
    go_enter Tryz.func15, Tryz.ntmps15
    go_wp2
    go_ret
    exact ⟨rb (by rw [HN.out]), Ext.refl _⟩

end
end Go.Proofs.YtgmpcinlkiiboaaGreatDoor
