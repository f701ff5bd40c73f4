/- addr.told: the first thing that is wrong. -/
import Derived.Test.YthaddecdgihocaaDoorTold
import Derived.Lib.Hide
namespace Go.Proofs.YthaddecdgihocaaDoor
open Go.RowKit
section
variable {a0 a2 a3 : Addr}

/-- A closure that answers the error of code k in each later world. -/
def Asks (a0 a2 a3 : Addr) (w : World) (v : Value) (k : Nat) : Prop :=
  ∃ f bs, v = .func (.func f) #[] bs ∧ k ≤ 3 ∧ (∀ args w, (callFunc f args).run Tryd.prog w = .ok (.enter f args) w) ∧ ∀ W, Ext w W → Calls Tryd.prog f bs W fun e w' => e = .returned (errV a0 a2 a3 k) ∧ Ext W w'

def firstK : List Nat → Nat
  | [] => 0
  | 0 :: r => firstK r
  | k :: _ => k

theorem ret_int {k : IntKind} {a b : Int} (h : a = b) : Ending.returned (.int k a) = .returned (.int k b) := by rw [h]
theorem firstK_le : ∀ (l : List Nat), (∀ k ∈ l, k ≤ 3) → firstK l ≤ 3
  | [], _ => by decide
  | 0 :: r, h => firstK_le r (fun k hk => h k (by simp [hk]))
  | (k+1) :: r, h => h (k+1) (by simp)

set_option maxHeartbeats 1000000 in
theorem told_any (ks : List Nat) (b : Nat) (cap : Nat) (vs : List Value) (w : World) (hG : G a0 a2 a3 w) (hb : b < w.heap.size) (hl : vs.length = ks.length) (hm : ks.length ≤ 100)
    (hc : ∀ i, i < ks.length → w.cell? ⟨b, i, none⟩ = some (vs.getD i undef)) (hA : ∀ i, i < ks.length → Asks a0 a2 a3 w (vs.getD i undef) (ks.getD i 0)) :
    Calls Tryd.prog 30 #[.slice (some ⟨b, 0, none⟩) ks.length cap] w fun e w' => e = .returned (.int .i64 (num (firstK ks))) ∧ Ext w w' := by
  go_enter Tryd.func30, Tryd.ntmps30
  go_wp2
  go_loopg [8] ks.length (fun m i wr => ∃ k : Nat, k + m = ks.length ∧ i = .int .i64 k ∧ firstK ks = firstK (ks.drop k) ∧ Ext w wr)
  case atStart => exact ⟨0, by omega, rfl, rfl, Ext.refl w⟩
  case round =>
    obtain ⟨k, hk, rfl, hf, he⟩ := hrel
    have hGr := hG.ext he
    have hw : w.heap.size ≤ wr.heap.size := he.size
    by_cases hlt : k < ks.length
    · obtain ⟨f, bs, hv, h3, hen, hcall⟩ := hA k hlt
      have c : wr.cell? ⟨b, k, none⟩ = some (.func (.func f) #[] bs) := by rw [he.cell (p := ⟨b, k, none⟩) hb, hc k hlt, hv]
      have hd : ks.drop k = ks.getD k 0 :: ks.drop (k + 1) := by
        rw [List.drop_eq_getElem_cons hlt]; simp [List.getD, hlt]
      generalize hq : ks.getD k 0 = q at *
      have hC := Lib.hid (And.intro hcall (And.intro hf hd))
      have hE := Lib.hid he
      have hN := Lib.hid (numberOf_any (a0 := a0) (a2 := a2) (a3 := a3) q h3)
      have hG' := Lib.hid hGr
      clear hcall hc hA hv hG hf hd hq he hGr
      by_cases hq0 : q = 0
      · subst hq0
        go_wp2_with (first | ((with_reducible refine (hC.out.1 _ hE.out).mono ?_); rintro e w1 ⟨rfl, h1⟩) | (go_at_call 44; (refine (hN.out _ ?_).mono ?_); focus (first | exact hG'.out | exact hG'.out.ext h1)); rintro e w2 ⟨rfl, rfl⟩)
        go_roundg (gk - 1)
        case measure => omega
        case rel => exact ⟨k + 1, by omega, by go_num, by rw [hC.out.2.1, hC.out.2.2]; rfl, hE.out.trans h1⟩
      · have hx : (num q != 0) = true := by
          match q, hq0, h3 with
          | 1, _, _ | 2, _, _ | 3, _, _ => rfl
        have hz : num q = num (firstK ks) := by
          rw [hC.out.2.1, hC.out.2.2]
          obtain ⟨n, rfl⟩ : ∃ n, q = n + 1 := ⟨q - 1, by omega⟩
          rfl
        have hZ := Lib.hid hz
        clear hz
        go_wp2_with (first | ((with_reducible refine (hC.out.1 _ hE.out).mono ?_); rintro e w1 ⟨rfl, h1⟩) | (go_at_call 44; (refine (hN.out _ ?_).mono ?_); focus (first | exact hG'.out | exact hG'.out.ext h1)); rintro e w2 ⟨rfl, rfl⟩)
        go_ret
        exact ⟨ret_int hZ.out, hE.out.trans h1⟩
    · have hd : ks.drop k = [] := List.drop_eq_nil_of_le (by omega)
      have hz : firstK ks = 0 := by rw [hf, hd]; rfl
      have hZ := Lib.hid hz
      have hE := Lib.hid he
      clear hz hd hf hc hA hG he hGr
      go_wp2
      go_ret
      exact ⟨ret_int (by rw [hZ.out]; rfl), hE.out⟩
end
end Go.Proofs.YthaddecdgihocaaDoor
