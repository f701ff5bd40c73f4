/- addr.Round, by its two contracts (made by gen_round.py out of layer 1's texts). -/
import Derived.Test.YtgmpcinlkiiboaaGreatDoorIs
import Derived.Test.YtgmpcinlkiiboaaGreatDoorRF
import Derived.Test.YtgmpcinlkiiboaaGreatDoorArr
import Derived.Lib.Hide
import Derived.BigQuiet
import Derived.Deep.QuietTactic
import Derived.Deep.LoopGhost
import Derived.Deep.RegionWith
import Derived.Deep.RegionHeld3
namespace Go.Proofs.YtgmpcinlkiiboaaGreatDoor
namespace J
open Go.RowKit

structure G (a0 a2 a3 : Addr) (w : World) : Prop where
  sz : 9 ≤ w.heap.size
  c0 : w.cell? ⟨5, 0, none⟩ = some (.iface 152 (.pointer (some a0)))
  c2 : w.cell? ⟨4, 0, none⟩ = some (.iface 152 (.pointer (some a2)))
  c3 : w.cell? ⟨6, 0, none⟩ = some (.iface 152 (.pointer (some a3)))
  n02 : a0 ≠ a2
  n03 : a0 ≠ a3
  n23 : a2 ≠ a3
  s0 : a0.block < w.heap.size
  s2 : a2.block < w.heap.size
  s3 : a3.block < w.heap.size
  r0 : ∃ ca ta, w.heap[a0.block]? = some (.cells ca ta (0, 0))
  r2 : ∃ ca ta, w.heap[a2.block]? = some (.cells ca ta (0, 0))
  r3 : ∃ ca ta, w.heap[a3.block]? = some (.cells ca ta (0, 0))
  k0 : w.cell? ⟨8, 0, none⟩ = some (.int .i64 1)
  k1 : w.cell? ⟨8, 1, none⟩ = some (.int .i64 1)
  k2 : w.cell? ⟨8, 2, none⟩ = some (.int .i64 128)
  k3 : w.cell? ⟨8, 3, none⟩ = some (.int .i64 2)
  k4 : w.cell? ⟨8, 4, none⟩ = some (.int .i64 129)
  k5 : w.cell? ⟨8, 5, none⟩ = some (.int .i64 2048)
  k6 : w.cell? ⟨8, 6, none⟩ = some (.int .i64 3)
  k7 : w.cell? ⟨8, 7, none⟩ = some (.int .i64 2049)
  k8 : w.cell? ⟨8, 8, none⟩ = some (.int .i64 131072)

theorem G.ext {a0 a2 a3 : Addr} {w w' : World} (h : G a0 a2 a3 w) (k : Ext w w') : G a0 a2 a3 w' := by
  have hs := h.sz
  have e : ∀ b o, b < 9 → w'.cell? ⟨b, o, none⟩ = w.cell? ⟨b, o, none⟩ := fun b o hb => k.cell (p := ⟨b, o, none⟩) (by show b < w.heap.size; omega)
  have sz := k.size
  constructor
  · omega
  · rw [e _ _ (by decide)]; exact h.c0
  · rw [e _ _ (by decide)]; exact h.c2
  · rw [e _ _ (by decide)]; exact h.c3
  · exact h.n02
  · exact h.n03
  · exact h.n23
  · have := h.s0; omega
  · have := h.s2; omega
  · have := h.s3; omega
  · rw [k.block _ h.s0]; exact h.r0
  · rw [k.block _ h.s2]; exact h.r2
  · rw [k.block _ h.s3]; exact h.r3
  · rw [e _ _ (by decide)]; exact h.k0
  · rw [e _ _ (by decide)]; exact h.k1
  · rw [e _ _ (by decide)]; exact h.k2
  · rw [e _ _ (by decide)]; exact h.k3
  · rw [e _ _ (by decide)]; exact h.k4
  · rw [e _ _ (by decide)]; exact h.k5
  · rw [e _ _ (by decide)]; exact h.k6
  · rw [e _ _ (by decide)]; exact h.k7
  · rw [e _ _ (by decide)]; exact h.k8

/-- The error values, by their codes: nil, errAddr, errSize, errRef. -/
def errV (a0 a2 a3 : Addr) : Nat → Value
  | 0 => .nilIface
  | 1 => .iface 152 (.pointer (some a0))
  | 2 => .iface 152 (.pointer (some a2))
  | _ => .iface 152 (.pointer (some a3))
def num : Nat → Int
  | 0 => 0
  | 1 => 10
  | 2 => 11
  | _ => 12

section
variable {a0 a2 a3 : Addr}
/-- errors.Is by codes. -/
theorem is_any (k j : Nat) (hk : k ≤ 3) (h1 : 1 ≤ j) (h3 : j ≤ 3) (w : World) (hG : G a0 a2 a3 w) :
    Calls Tryz.prog 73 #[errV a0 a2 a3 k, errV a0 a2 a3 j] w fun e w' => e = .returned (.bool (k == j)) ∧ w = w' := by
  obtain ⟨ca0, ta0, r0⟩ := hG.r0
  obtain ⟨ca2, ta2, r2⟩ := hG.r2
  obtain ⟨ca3, ta3, r3⟩ := hG.r3
  have n02 := hG.n02
  have n03 := hG.n03
  have n23 := hG.n23
  match k, j, hk, h1, h3 with
  | 0, 1, _, _, _ => exact is_nil _ w
  | 0, 2, _, _, _ => exact is_nil _ w
  | 0, 3, _, _, _ => exact is_nil _ w
  | 1, 1, _, _, _ => exact is_same _ w
  | 2, 2, _, _, _ => exact is_same _ w
  | 3, 3, _, _, _ => exact is_same _ w
  | 1, 2, _, _, _ => exact is_other _ _ _ _ _ _ w n02 r0 r2
  | 1, 3, _, _, _ => exact is_other _ _ _ _ _ _ w n03 r0 r3
  | 2, 3, _, _, _ => exact is_other _ _ _ _ _ _ w n23 r2 r3
  | 2, 1, _, _, _ => exact is_other _ _ _ _ _ _ w n02.symm r2 r0
  | 3, 1, _, _, _ => exact is_other _ _ _ _ _ _ w n03.symm r3 r0
  | 3, 2, _, _, _ => exact is_other _ _ _ _ _ _ w n23.symm r3 r2
end
open Go.RowKit
section
variable {a0 a2 a3 : Addr}

def unlessV (b : Bool) (v : Value) : Value := if b then .nilIface else v

theorem unless_any (b : Bool) (v : Value) (w : World) :
    Calls Tryz.prog 66 #[.bool b, v] w fun e w' => e = .returned (unlessV b v) ∧ w = w' := by
  cases b
  · go_enter Tryz.func66, Tryz.ntmps66
    go_wp2
    go_ret
    exact ⟨rfl, rfl⟩
  · go_enter Tryz.func66, Tryz.ntmps66
    go_wp2
    go_ret
    exact ⟨rfl, rfl⟩

theorem numberOf_any (k : Nat) (hk : k ≤ 3) (w : World) (hG : G a0 a2 a3 w) :
    Calls Tryz.prog 64 #[errV a0 a2 a3 k] w fun e w' => e = .returned (.int .i64 (num k)) ∧ w = w' := by
  have c0 := hG.c0
  have c2 := hG.c2
  have c3 := hG.c3
  obtain ⟨ca0, ta0, r0⟩ := hG.r0
  obtain ⟨ca2, ta2, r2⟩ := hG.r2
  obtain ⟨ca3, ta3, r3⟩ := hG.r3
  have i20 := is_other a2 a0 _ _ _ _ w hG.n02.symm r2 r0
  have i30 := is_other a3 a0 _ _ _ _ w hG.n03.symm r3 r0
  have i32 := is_other a3 a2 _ _ _ _ w hG.n23.symm r3 r2
  clear r0 r2 r3 hG
  match k, hk with
  | 0, _ =>
    clear i20 i30 i32
    show Calls Tryz.prog 64 #[.nilIface] w _
    go_enter Tryz.func64, Tryz.ntmps64
    go_wp2_with (go_at_call 73; ((with_reducible refine (is_nil _ w).mono ?_); rintro e w' ⟨rfl, rfl⟩))
    go_ret
    exact ⟨rfl, rfl⟩
  | 1, _ =>
    clear i20 i30 i32
    show Calls Tryz.prog 64 #[.iface 152 (.pointer (some a0))] w _
    go_enter Tryz.func64, Tryz.ntmps64
    go_wp2_with (go_at_call 73; ((with_reducible refine (is_same _ w).mono ?_); rintro e w' ⟨rfl, rfl⟩))
    go_ret
    exact ⟨rfl, rfl⟩
  | 2, _ =>
    clear i30 i32
    have I := Lib.hid i20
    clear i20
    show Calls Tryz.prog 64 #[.iface 152 (.pointer (some a2))] w _
    go_enter Tryz.func64, Tryz.ntmps64
    go_wp2_with (go_at_call 73; first | ((with_reducible refine (is_same _ w).mono ?_); rintro e w' ⟨rfl, rfl⟩) | ((with_reducible refine I.out.mono ?_); rintro e w' ⟨rfl, rfl⟩))
    go_ret
    exact ⟨rfl, rfl⟩
  | 3, _ =>
    clear i20
    have I := Lib.hid i30
    have J := Lib.hid i32
    clear i30 i32
    show Calls Tryz.prog 64 #[.iface 152 (.pointer (some a3))] w _
    go_enter Tryz.func64, Tryz.ntmps64
    go_wp2_with (go_at_call 73; first | ((with_reducible refine (is_same _ w).mono ?_); rintro e w' ⟨rfl, rfl⟩) | ((with_reducible refine I.out.mono ?_); rintro e w' ⟨rfl, rfl⟩) | ((with_reducible refine J.out.mono ?_); rintro e w' ⟨rfl, rfl⟩))
    go_ret
    exact ⟨rfl, rfl⟩
end
open Go.RowKit
section
variable {a0 a2 a3 : Addr}

/-- A closure that answers the error of code k in each later world. -/
def Asks (a0 a2 a3 : Addr) (w : World) (v : Value) (k : Nat) : Prop :=
  ∃ f bs, v = .func (.func f) #[] bs ∧ k ≤ 3 ∧ (∀ args w, (callFunc f args).run Tryz.prog w = .ok (.enter f args) w) ∧ ∀ W, Ext w W → Calls Tryz.prog f bs W fun e w' => e = .returned (errV a0 a2 a3 k) ∧ Ext W w'

def firstK : List Nat → Nat
  | [] => 0
  | 0 :: r => firstK r
  | k :: _ => k

theorem ret_int {k : IntKind} {a b : Int} (h : a = b) : Ending.returned (.int k a) = .returned (.int k b) := by rw [h]
theorem firstK_le : ∀ (l : List Nat), (∀ k ∈ l, k ≤ 3) → firstK l ≤ 3
  | [], _ => by decide
  | 0 :: r, h => firstK_le r (fun k hk => h k (by simp [hk]))
  | (k+1) :: r, h => h (k+1) (by simp)

set_option maxHeartbeats 1000000 in
theorem told_any (ks : List Nat) (b : Nat) (cap : Nat) (vs : List Value) (w : World) (hG : G a0 a2 a3 w) (hb : b < w.heap.size) (hl : vs.length = ks.length) (hm : ks.length ≤ 100)
    (hc : ∀ i, i < ks.length → w.cell? ⟨b, i, none⟩ = some (vs.getD i undef)) (hA : ∀ i, i < ks.length → Asks a0 a2 a3 w (vs.getD i undef) (ks.getD i 0)) :
    Calls Tryz.prog 55 #[.slice (some ⟨b, 0, none⟩) ks.length cap] w fun e w' => e = .returned (.int .i64 (num (firstK ks))) ∧ Ext w w' := by
  go_enter Tryz.func55, Tryz.ntmps55
  go_wp2
  go_loopg [8] ks.length (fun m i wr => ∃ k : Nat, k + m = ks.length ∧ i = .int .i64 k ∧ firstK ks = firstK (ks.drop k) ∧ Ext w wr)
  case atStart => exact ⟨0, by omega, rfl, rfl, Ext.refl w⟩
  case round =>
    obtain ⟨k, hk, rfl, hf, he⟩ := hrel
    have hGr := hG.ext he
    have hw : w.heap.size ≤ wr.heap.size := he.size
    by_cases hlt : k < ks.length
    · obtain ⟨f, bs, hv, h3, hen, hcall⟩ := hA k hlt
      have c : wr.cell? ⟨b, k, none⟩ = some (.func (.func f) #[] bs) := by rw [he.cell (p := ⟨b, k, none⟩) hb, hc k hlt, hv]
      have hd : ks.drop k = ks.getD k 0 :: ks.drop (k + 1) := by
        rw [List.drop_eq_getElem_cons hlt]; simp [List.getD, hlt]
      generalize hq : ks.getD k 0 = q at *
      have hC := Lib.hid (And.intro hcall (And.intro hf hd))
      have hE := Lib.hid he
      have hN := Lib.hid (numberOf_any (a0 := a0) (a2 := a2) (a3 := a3) q h3)
      have hG' := Lib.hid hGr
      clear hcall hc hA hv hG hf hd hq he hGr
      by_cases hq0 : q = 0
      · subst hq0
        go_wp2_with (first | ((with_reducible refine (hC.out.1 _ hE.out).mono ?_); rintro e w1 ⟨rfl, h1⟩) | (go_at_call 64; (refine (hN.out _ ?_).mono ?_); focus (first | exact hG'.out | exact hG'.out.ext h1)); rintro e w2 ⟨rfl, rfl⟩)
        go_roundg (gk - 1)
        case measure => omega
        case rel => exact ⟨k + 1, by omega, by go_num, by rw [hC.out.2.1, hC.out.2.2]; rfl, hE.out.trans h1⟩
      · have hx : (num q != 0) = true := by
          match q, hq0, h3 with
          | 1, _, _ | 2, _, _ | 3, _, _ => rfl
        have hz : num q = num (firstK ks) := by
          rw [hC.out.2.1, hC.out.2.2]
          obtain ⟨n, rfl⟩ : ∃ n, q = n + 1 := ⟨q - 1, by omega⟩
          rfl
        have hZ := Lib.hid hz
        clear hz
        go_wp2_with (first | ((with_reducible refine (hC.out.1 _ hE.out).mono ?_); rintro e w1 ⟨rfl, h1⟩) | (go_at_call 64; (refine (hN.out _ ?_).mono ?_); focus (first | exact hG'.out | exact hG'.out.ext h1)); rintro e w2 ⟨rfl, rfl⟩)
        go_ret
        exact ⟨ret_int hZ.out, hE.out.trans h1⟩
    · have hd : ks.drop k = [] := List.drop_eq_nil_of_le (by omega)
      have hz : firstK ks = 0 := by rw [hf, hd]; rfl
      have hZ := Lib.hid hz
      have hE := Lib.hid he
      clear hz hd hf hc hA hG he hGr
      go_wp2
      go_ret
      exact ⟨ret_int (by rw [hZ.out]; rfl), hE.out⟩
end
open Go.RowKit Go
attribute [local go_sem] Oper.semAt_some
section
variable {a0 a2 a3 : Addr}

theorem cls0 (w : World) : (Instr.index 145 (.agg #[.int .i64 1, .int .i64 1, .int .i64 128, .int .i64 2, .int .i64 129, .int .i64 2048, .int .i64 3, .int .i64 2049, .int .i64 131072]) (.int .i64 0)).run Tryz.prog w = .ok (.agg #[.int .i64 1, .int .i64 1, .int .i64 128]) w := by kernel_rfl
theorem cls1 (w : World) : (Instr.index 145 (.agg #[.int .i64 1, .int .i64 1, .int .i64 128, .int .i64 2, .int .i64 129, .int .i64 2048, .int .i64 3, .int .i64 2049, .int .i64 131072]) (.int .i64 1)).run Tryz.prog w = .ok (.agg #[.int .i64 2, .int .i64 129, .int .i64 2048]) w := by kernel_rfl
theorem cls2 (w : World) : (Instr.index 145 (.agg #[.int .i64 1, .int .i64 1, .int .i64 128, .int .i64 2, .int .i64 129, .int .i64 2048, .int .i64 3, .int .i64 2049, .int .i64 131072]) (.int .i64 2)).run Tryz.prog w = .ok (.agg #[.int .i64 3, .int .i64 2049, .int .i64 131072]) w := by kernel_rfl
def classXs : List (Array Value) := [#[.agg #[.int .i64 1, .int .i64 1, .int .i64 128]], #[.agg #[.int .i64 2, .int .i64 129, .int .i64 2048]], #[.agg #[.int .i64 3, .int .i64 2049, .int .i64 131072]]]

set_option maxHeartbeats 1000000 in
theorem eachClass_iter (w : World) (hG : G a0 a2 a3 w) : Iter Tryz.prog (fun k => k = 8) 74 #[] classXs w := by
  intro l J Jx W hW hJ hJx hY hJ0
  have hs := hG.sz
  have e : ∀ o, W.cell? ⟨8, o, none⟩ = w.cell? ⟨8, o, none⟩ := fun o => hW.at _ _ (by omega) (.inl rfl)
  have k0 := (e 0).trans hG.k0
  have k1 := (e 1).trans hG.k1
  have k2 := (e 2).trans hG.k2
  have k3 := (e 3).trans hG.k3
  have k4 := (e 4).trans hG.k4
  have k5 := (e 5).trans hG.k5
  have k6 := (e 6).trans hG.k6
  have k7 := (e 7).trans hG.k7
  have k8 := (e 8).trans hG.k8
  have H := Lib.hid (And.intro hJ (And.intro hJx hY))
  have H0 := Lib.hid hJ0
  clear hJ hJx hY hW hG hJ0 e
  refine callsIn_of_wp Tryz.func74 rfl trivial ?_ rfl
  simp only [Tryz.ntmps74, List.size_toArray, List.length_cons, List.length_nil, Nat.reduceAdd, Nat.reduceSub, Array.replicate_succ, Array.replicate_zero, List.push_toArray, List.append_toArray, List.nil_append, List.cons_append]
  have i0 := cls0
  have i1 := cls1
  have i2 := cls2
  obtain ⟨f0, t0, p0, q0, hy0, hR0⟩ := H.out.2.2 0 _ (W.alloc (.cells #[.int .i64 1, .int .i64 1, .int .i64 128] 135)) rfl (H.out.1 0 W _ H0.out ((Below.refl _ _).alloc (Nat.le_refl _) _))
  gi_wp2
  refine wpIn_loop_rounds 4 ?_
  rw [roundsIn_succ]
  gi_wp2
  refine hR0.mono ?_
  rintro e W1 (⟨rfl, hJ1, hk1⟩ | ⟨rfl, hx1, _⟩)
  · have z1 : W.heap.size ≤ W1.heap.size := by have := hk1.size; simp at this; omega
    obtain ⟨f1, t1, p1, q1, hy1, hR1⟩ := H.out.2.2 1 _ (W1.alloc (.cells #[.int .i64 2, .int .i64 129, .int .i64 2048] 135)) rfl (H.out.1 1 W1 _ hJ1 ((Below.refl _ _).alloc (z1) _))
    clear hk1 hJ1 hR0 hy0
    gi_wp2
    rw [roundsIn_succ]
    gi_wp2
    refine hR1.mono ?_
    rintro e W2 (⟨rfl, hJ2, hk2⟩ | ⟨rfl, hx2, _⟩)
    · have z2 : W.heap.size ≤ W2.heap.size := by have := hk2.size; simp at this; omega
      obtain ⟨f2, t2, p2, q2, hy2, hR2⟩ := H.out.2.2 2 _ (W2.alloc (.cells #[.int .i64 3, .int .i64 2049, .int .i64 131072] 135)) rfl (H.out.1 2 W2 _ hJ2 ((Below.refl _ _).alloc (z2) _))
      clear hk2 hJ2 hR1 hy1
      gi_wp2
      rw [roundsIn_succ]
      gi_wp2
      refine hR2.mono ?_
      rintro e W3 (⟨rfl, hJ3, hk3⟩ | ⟨rfl, hx3, _⟩)
      · clear hk3 hR2 hy2
        have HJ3 := Lib.hid hJ3
        clear hJ3
        gi_wp2
        rw [roundsIn_succ]
        gi_wp2
        go_end0
        exact ⟨⟨_, rfl⟩, .inl HJ3.out⟩
      · gi_wp2
        refine bodyPost_ret (results_none rfl _ _ _) rfl ?_
        exact ⟨⟨_, rfl⟩, .inr ⟨3, by decide, hx3⟩⟩
    · gi_wp2
      refine bodyPost_ret (results_none rfl _ _ _) rfl ?_
      exact ⟨⟨_, rfl⟩, .inr ⟨2, by decide, hx2⟩⟩
  · gi_wp2
    refine bodyPost_ret (results_none rfl _ _ _) rfl ?_
    exact ⟨⟨_, rfl⟩, .inr ⟨1, by decide, hx1⟩⟩

def cls (n : Int) : Int := if 1 ≤ n ∧ n ≤ 128 then 1 else if 129 ≤ n ∧ n ≤ 2048 then 2 else if 2049 ≤ n ∧ n ≤ 131072 then 3 else 0

set_option maxHeartbeats 2000000 in
theorem classOf_any (n : Int) (w : World) (hG : G a0 a2 a3 w) :
    Calls Tryz.prog 67 #[.int .i64 n] w fun e w' => e = .returned (.int .i64 (cls n)) ∧ Ext w w' := by
  refine calls_of_marks Tryz.func67 rfl ?_
  simp only [Tryz.ntmps67, List.size_toArray, List.length_cons, List.length_nil, Nat.reduceAdd, Nat.reduceSub, Array.replicate_succ, Array.replicate_zero, List.push_toArray, List.append_toArray, List.nil_append, List.cons_append]
  have G' := Lib.hid hG
  clear hG
  have hs := G'.out.sz
  go_wp2
  refine wp_world ?_
  intro w1 hw1
  have hE1 : Ext w w1 := by rw [hw1]; exact (((Below.refl _ _).alloc (Nat.le_refl _) _).alloc (by simp) _)
  have hz1 : w.heap.size + 2 ≤ w1.heap.size := by rw [hw1]; simp
  have hb0 : Blk w1 w.heap.size #[.int .i64 n] 3 := by rw [hw1]; exact (Blk.new _ _ _).alloc _
  have hb1 : Blk w1 (w.heap.size + 1) #[.int .i64 0] 3 := by
    have := Blk.new (w.alloc (.cells #[.int .i64 n] 3)) #[.int .i64 0] 3
    rw [World.size_alloc] at this
    rw [hw1]; exact this
  clear hw1
  refine range_outer (D := fun k => k = 8) rfl (enters_of Tryz.func74 (by kernel_rfl) rfl)
    (eachClass_iter (a0 := a0) (a2 := a2) (a3 := a3) w1 (G'.out.ext hE1)) (by rintro k rfl; omega) (Keep.refl _ _ _) (by intro x hx; simp [classXs] at hx; rcases hx with rfl | rfl | rfl <;> rfl)
    (fun k W => Ext w W ∧ Blk W w.heap.size #[.int .i64 n] 3 ∧ Blk W (w.heap.size + 1) #[.int .i64 0] 3 ∧ (1 ≤ k → ¬ (1 ≤ n ∧ n ≤ 128)) ∧ (2 ≤ k → ¬ (129 ≤ n ∧ n ≤ 2048)) ∧ (3 ≤ k → ¬ (2049 ≤ n ∧ n ≤ 131072)))
    (fun c k W => c = .ret ∧ Ext w W ∧ Blk W (w.heap.size + 1) #[.int .i64 (cls n)] 3) ?hI ?hIx ⟨hE1, hb0, hb1, by omega, by omega, by omega⟩ ?hround ?hdone ?hstop
  case hI =>
    rintro k A B ⟨h1, h2, h3, h4⟩ hb
    exact ⟨Below.trans h1 (hb.mono (by omega)), h2.below hb (by omega), h3.below hb (by omega), h4⟩
  case hIx =>
    rintro c k A B ⟨rfl, h1, h2⟩ hb
    exact ⟨rfl, Below.trans h1 (hb.mono (by omega)), h2.below hb (by omega)⟩
  case hdone =>
    rintro K W hK ⟨hE, hB0, hB1, hc1, hc2, hc3⟩ hk
    have c1 := hB1.cell 0
    have f1 := hB1.frozen 0
    have H := Lib.hid (And.intro hE (And.intro hB1 (And.intro hk (And.intro hK (show cls n = 0 by simp [classXs] at hc1 hc2 hc3; unfold cls; rw [if_neg (by omega), if_neg (by omega), if_neg (by omega)])))))
    clear hE hB0 hB1 hk hK hc1 hc2 hc3
    simp at c1
    go_wp2
    obtain ⟨hE, hB1, hk, hK, hz⟩ := H.out
    have hF := (hB1.set 0 (.int .i64 0)).putObj K (.deferred none) (by omega)
    have e0 := hF.cell 0
    simp at e0
    refine leave_mark (v := .int .i64 0) ?_ ?_ ⟨by rw [hz], ?_⟩
    · rw [Below.heap_setCell _ _ _ _ (by show K ≠ w.heap.size + 1; omega)]
      exact hk
    · simp [results, Tryz.results67, go_sem, e0]
    · exact Below.trans (hE.setCell (p := ⟨w.heap.size + 1, 0, none⟩) (by show w.heap.size ≤ w.heap.size + 1; omega) _) (below_putObj _ K w.heap.size _ (by omega))
  case hstop =>
    rintro K c k W hK hk2 ⟨rfl, hE, hB1⟩ hk
    have H := Lib.hid (And.intro hE (And.intro hB1 (And.intro hk hK)))
    clear hE hB1 hk hK
    go_wp2
    obtain ⟨hE, hB1, hk, hK⟩ := H.out
    have hF := hB1.putObj K (.deferred none) (by omega)
    have e0 := hF.cell 0
    simp at e0
    refine leave_mark (v := .int .i64 (cls n)) hk ?_ ⟨rfl, ?_⟩
    · simp [results, Tryz.results67, go_sem, e0]
    · exact Below.trans hE (below_putObj _ K w.heap.size _ (by omega))
  case hround =>
    rintro l k x W hx hl hr ⟨hE, hB0, hB1, hc⟩
    have H := Lib.hid (And.intro hE (And.intro hB0 (And.intro hB1 hc)))
    clear hE hB0 hB1 hc
    have hx3 : (k = 0 ∧ x = #[.agg #[.int .i64 1, .int .i64 1, .int .i64 128]]) ∨ (k = 1 ∧ x = #[.agg #[.int .i64 2, .int .i64 129, .int .i64 2048]]) ∨ (k = 2 ∧ x = #[.agg #[.int .i64 3, .int .i64 2049, .int .i64 131072]]) := by
      rcases k with _ | _ | _ | k <;> simp [classXs] at hx
      · exact .inl ⟨rfl, hx.symm⟩
      · exact .inr (.inl ⟨rfl, hx.symm⟩)
      · exact .inr (.inr ⟨rfl, hx.symm⟩)
    clear hx
    rcases hx3 with ⟨rfl, rfl⟩ | ⟨rfl, rfl⟩ | ⟨rfl, rfl⟩
    all_goals
      gi_wp2
      refine to_body1 hl hr ((Keep.refl _ _ _).alloc _) ?_
      intro W' ho hW' hlt hr'
      obtain ⟨hE, hB0, hB1, hc⟩ := H.out
      have hz := ho.size
      simp at hz
      have hBx := (Blk.new W _ _).off ho (show W.heap.size ≠ l by omega)
      replace hE := Below.trans (hE.alloc hE.size _) (hW'.mono (by omega))
      replace hB0 := (hB0.alloc _).below hW' (by omega)
      replace hB1 := (hB1.alloc _).below hW' (by omega)
      have c0 := hB0.cell 0
      have d0 := hB1.cell 0
      have f0 := hB1.frozen 0
      have s0 := hBx.cell 0
      have s1 := hBx.cell 1
      have s2 := hBx.cell 2
      simp at c0 d0 s0 s1 s2
      have H' := Lib.hid (And.intro hE (And.intro hB0 (And.intro hB1 hc)))
      clear hE hB0 hB1 hc H hr hr' hW' ho hBx hz
      gi_wp2
      all_goals
        have hcc := H'.out.2.2.2
        first
          | exact ⟨Keep.refl _ _ _, H'.out.1, H'.out.2.1, H'.out.2.2.1, by omega, by omega, by omega⟩
          | (refine ⟨(Keep.refl _ _ _).setCell _ _ (.inl (by show w.heap.size + 1 < _; omega)) (.inl (by show ¬ (w.heap.size + 1 = _); omega)), rfl,
              H'.out.1.setCell (p := ⟨w.heap.size + 1, _, none⟩) (by show w.heap.size ≤ w.heap.size + 1; omega) _, ?_⟩
             have hq := H'.out.2.2.1.set 0 (.int .i64 (cls n))
             unfold cls at hq ⊢
             first
               | (rw [if_pos (by omega)] at hq ⊢; exact hq)
               | (rw [if_neg (by omega), if_pos (by omega)] at hq ⊢; exact hq)
               | (rw [if_neg (by omega), if_neg (by omega), if_pos (by omega)] at hq ⊢; exact hq))
end
open Go.RowKit Go
section
variable {a0 a2 a3 : Addr}

theorem ret_val {a b : Value} (h : a = b) : Ending.returned a = .returned b := by rw [h]
theorem unless_eq {b c : Bool} {v : Value} (h : b = c) : unlessV b v = unlessV c v := by rw [h]
theorem qs {P : Program} {f : FuncId} {args : Array Value} {w : World} {n : Nat} {v : Value}
    (h : Calls P f args (w.drewN n) fun e w' => e = .returned v ∧ w.drewN n = w') : Calls P f args (w.drewN n) fun e w'' => e = .returned v ∧ ∃ m, w'' = w.drewN m :=
  h.mono fun _ _ ⟨he, hm⟩ => ⟨he, n, hm.symm⟩
theorem ext_drewN (w : World) (n : Nat) : Ext w (w.drewN n) := by
  induction n with
  | zero => exact Ext.refl _
  | succ n ih => exact ih.drew

theorem noSize_any (n : Int) (w : World) :
    Calls Tryz.prog 56 #[.int .i64 n] w fun e w' => e = .returned (.func (.func 65) #[] #[.pointer (some ⟨w.heap.size, 0, none⟩)]) ∧ w' = w.alloc (.cells #[.int .i64 n] 3) := by
  go_enter Tryz.func56, Tryz.ntmps56
  go_wp2
  go_ret
  exact ⟨rfl, rfl⟩

def codeB (c : Bool) (j : Nat) : Nat := if c then 0 else j
theorem errV1 (c : Bool) : unlessV c (.iface 152 (.pointer (some a0))) = errV a0 a2 a3 (codeB c 1) := by cases c <;> rfl
theorem errV2 (c : Bool) : unlessV c (.iface 152 (.pointer (some a2))) = errV a0 a2 a3 (codeB c 2) := by cases c <;> rfl
theorem errV3 (c : Bool) : unlessV c (.iface 152 (.pointer (some a3))) = errV a0 a2 a3 (codeB c 3) := by cases c <;> rfl
theorem k_le (c : Bool) (j : Nat) (h : j ≤ 3) : codeB c j ≤ 3 := by cases c <;> simp [codeB, h]


set_option maxHeartbeats 1000000 in
theorem noSize_asks (n : Int) (w : World) (hG : G a0 a2 a3 w) (b : Nat) (hb : b < w.heap.size) (hc : w.cell? ⟨b, 0, none⟩ = some (.int .i64 n)) :
    Asks a0 a2 a3 w (.func (.func 65) #[] #[.pointer (some ⟨b, 0, none⟩)]) (codeB (cls n != 0) 2) := by
  refine ⟨_, _, rfl, k_le _ _ (by decide), enters_of Tryz.func65 (by kernel_rfl) rfl, fun W hW => ?_⟩
  have hg := hG.ext hW
  have g0 := hg.c2
  have gs := hg.sz
  have hL := Lib.hid (fun W' => classOf_any (a0 := a0) (a2 := a2) (a3 := a3) n W')
  have H := Lib.hid hg
  rw [← errV2 (a0 := a0) (a2 := a2) (a3 := a3)]
  have c := (extAt hW b 0 hb).trans hc
  clear hc hb hG hW hg
  go_enter Tryz.func65, Tryz.ntmps65
  go_wp2
  go_region_with (first | (go_at_call 67; go_loud (refine (hL.out _ ?_).mono ?_; exact H.out.ext (Ext.refl _).drew; rintro e w1 ⟨rfl, h1⟩; have g1 := (extAt h1 4 0 (by show 4 < W.heap.size; omega)).trans g0)) | (go_at_call 66; refine (unless_any _ _ _).mono ?_; rintro e w2 ⟨rfl, rfl⟩))
  all_goals
    go_wp2
    go_ret
    exact ⟨rfl, (Ext.refl W).drew.trans h1⟩

end
open Go.RowKit Go
section
variable {a0 a2 a3 : Addr}

theorem told1 (k : Nat) (v : Value) (b : Nat) (t : TypeId) (w : World) (hG : G a0 a2 a3 w) (hB : Blk w b #[v] t) (hA : Asks a0 a2 a3 w v k) :
    Calls Tryz.prog 55 #[.slice (some ⟨b, 0, none⟩) 1 1] w fun e w' => e = .returned (.int .i64 (num k)) ∧ Ext w w' := by
  have := told_any (a0 := a0) (a2 := a2) (a3 := a3) [k] b 1 [v] w hG hB.lt rfl (by simp) (by
    intro i hi; rw [hB.cell]; rcases i with _ | i <;> simp at hi ⊢) (by intro i hi; rcases i with _ | i <;> simp at hi ⊢; exact hA)
  rw [show firstK [k] = k by rcases k with _ | k <;> rfl] at this
  exact this
theorem ext2 (w : World) (o o' : Obj) : Ext w ((w.alloc o).alloc o') := ((Below.refl _ _).alloc (Nat.le_refl _) _).alloc (by simp) _
theorem ext3 (w : World) (o o' o2 : Obj) : Ext w (((w.alloc o).alloc o').alloc o2) := (ext2 w o o').alloc (by simp; omega) _
theorem ext4 (w : World) (o o' o2 o3 : Obj) : Ext w ((((w.alloc o).alloc o').alloc o2).alloc o3) := (ext3 w o o' o2).alloc (by simp; omega) _
theorem ext5 (w : World) (o o' o2 o3 o4 : Obj) : Ext w (((((w.alloc o).alloc o').alloc o2).alloc o3).alloc o4) := (ext4 w o o' o2 o3).alloc (by simp; omega) _

/-- told over one closure, with one captured box laid ahead. -/
abbrev ToldOne (f : FuncId) (k : Nat) (bx : Obj) (w : World) : Prop :=
    Calls Tryz.prog 55 #[.slice (some ⟨w.heap.size + 1, 0, none⟩) 1 1] ((w.alloc bx).alloc (.cells #[.func (.func f) #[] #[.pointer (some ⟨w.heap.size, 0, none⟩)]] 104)) fun e w' => e = .returned (.int .i64 (num k)) ∧ Ext w w'
theorem told_one (f : FuncId) (k : Nat) (bx : Obj) (w : World) (hG : G a0 a2 a3 w)
    (hA : ∀ W, Ext (w.alloc bx) W → G a0 a2 a3 W → Asks a0 a2 a3 W (.func (.func f) #[] #[.pointer (some ⟨w.heap.size, 0, none⟩)]) k) :
    Calls Tryz.prog 55 #[.slice (some ⟨w.heap.size + 1, 0, none⟩) 1 1] ((w.alloc bx).alloc (.cells #[.func (.func f) #[] #[.pointer (some ⟨w.heap.size, 0, none⟩)]] 104)) fun e w' => e = .returned (.int .i64 (num k)) ∧ Ext w w' := by
  have hB := Blk.new (w.alloc bx) #[.func (.func f) #[] #[.pointer (some ⟨w.heap.size, 0, none⟩)]] 104
  rw [World.size_alloc] at hB
  have g2 := hG.ext (ext2 w bx (.cells #[.func (.func f) #[] #[.pointer (some ⟨w.heap.size, 0, none⟩)]] 104))
  exact (told1 k _ _ _ _ g2 hB (hA _ ((Below.refl _ _).alloc (Nat.le_refl _) _) g2)).mono fun e w' ⟨he, hw⟩ => ⟨he, (ext2 w _ _).trans hw⟩

theorem box1 (w : World) (v : Value) (t : TypeId) {W : World} (h : Ext (w.alloc (.cells #[v] t)) W) : W.cell? ⟨w.heap.size, 0, none⟩ = some v := by
  rw [extAt h w.heap.size 0 (by simp)]; exact (Blk.new w #[v] t).cell 0
theorem boxlt (w : World) (o : Obj) {W : World} (h : Ext (w.alloc o) W) : w.heap.size < W.heap.size := by
  have := h.size; simp at this; omega

theorem told_size (n : Int) (k : Nat) (hk : codeB (cls n != 0) 2 = k) (w : World) (hG : G a0 a2 a3 w) : ToldOne 65 k (.cells #[.int .i64 n] 3) w :=
  told_one (a0 := a0) (a2 := a2) (a3 := a3) 65 k (.cells #[.int .i64 n] 3) w hG (fun _ h g => hk ▸ noSize_asks n _ g _ (boxlt w _ h) (box1 w _ _ h))
theorem cls_no (n : Int) (h : ¬ (1 ≤ n ∧ n ≤ 131072)) : (cls n != 0) = false := by
  unfold cls; rw [if_neg (by omega), if_neg (by omega), if_neg (by omega)]; rfl
theorem cls_ok (n : Int) (h1 : 1 ≤ n) (h2 : n ≤ 131072) : (cls n != 0) = true := by
  unfold cls
  split
  · rfl
  · split
    · rfl
    · rw [if_pos (by omega)]; rfl
theorem ret_two {a b c : Int} (h : a = b) : Ending.returned (.tuple #[.int .i64 a, .int .i64 c]) = .returned (.tuple #[.int .i64 b, .int .i64 c]) := by rw [h]
theorem upTo_any (n u : Int) (h1 : 0 ≤ n ∧ n ≤ 200000) (hu : 1 ≤ u ∧ u ≤ 5000) (w : World) :
    Calls Tryz.prog 57 #[.int .i64 n, .int .i64 u] w fun e w' => e = .returned (.int .i64 ((n + u - 1) / u)) ∧ w = w' := by
  obtain ⟨a, b⟩ := h1
  obtain ⟨c, d⟩ := hu
  go_enter Tryz.func57, Tryz.ntmps57
  go_wp2
  go_ret
  exact ⟨rfl, rfl⟩

set_option maxHeartbeats 1000000 in
theorem round_no (n : Int) (h : ¬ (1 ≤ n ∧ n ≤ 131072)) (w : World) (hG : G a0 a2 a3 w) :
    Calls Tryz.prog 39 #[.int .i64 n] w fun e w' => e = .returned (.tuple #[.int .i64 0, .int .i64 11]) ∧ Ext w w' := by
  have hT := Lib.hid (told_size n 2 (by rw [cls_no n h]; rfl) w hG)
  clear hG
  go_enter Tryz.func39, Tryz.ntmps39
  go_wp2_with (first | (go_at_call 56; refine (noSize_any _ _).mono ?_; rintro e w1 ⟨rfl, rfl⟩) | (go_at_call 55; refine hT.out.mono ?_; rintro e w1 ⟨rfl, h1⟩))
  go_ret2
  exact ⟨rfl, h1⟩

set_option maxHeartbeats 1000000 in
theorem round_ok (n : Int) (g1 : 1 ≤ n) (g2 : n ≤ 131072) (w : World) (hG : G a0 a2 a3 w) :
    Calls Tryz.prog 39 #[.int .i64 n] w fun e w' => e = .returned (.tuple #[.int .i64 ((n + 7) / 8 * 8), .int .i64 0]) ∧ Ext w w' := by
  have hT := Lib.hid (told_size n 0 (by rw [cls_ok n g1 g2]; rfl) w hG)
  have hU := upTo_any n 8 ⟨by omega, by omega⟩ (by decide)
  have hU' := Lib.hid hU
  clear hU
  have b1 : 0 ≤ (n + 8 - 1) / 8 := by omega
  have b2 : (n + 8 - 1) / 8 ≤ 20000 := by omega
  clear hG
  go_enter Tryz.func39, Tryz.ntmps39
  go_wp2_with (first | (go_at_call 56; refine (noSize_any _ _).mono ?_; rintro e w1 ⟨rfl, rfl⟩) | (go_at_call 55; refine hT.out.mono ?_; rintro e w1 ⟨rfl, h1⟩) | (go_at_call 57; refine (hU'.out _).mono ?_; rintro e w2 ⟨rfl, rfl⟩))
  go_ret2
  exact ⟨ret_two (by omega), h1⟩

end
end J
end Go.Proofs.YtgmpcinlkiiboaaGreatDoor
