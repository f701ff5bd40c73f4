/- addr.Join, by its two contracts (made by gen_join.py out of layer 1's texts). -/
import Derived.Test.YtfpefffgegphnaaDoorIs
import Derived.Test.YtfpefffgegphnaaDoorRF
import Derived.Test.YtfpefffgegphnaaDoorArr
import Derived.Lib.Hide
import Derived.BigQuiet
import Derived.Deep.QuietTactic
import Derived.Deep.LoopGhost
import Derived.Deep.RegionWith
import Derived.Deep.RegionHeld3
namespace Go.Proofs.YtfpefffgegphnaaDoor
namespace J
open Go.RowKit

structure G (a0 a2 a3 : Addr) (w : World) : Prop where
  sz : 11 ≤ w.heap.size
  c0 : w.cell? ⟨7, 0, none⟩ = some (.iface 124 (.pointer (some a0)))
  c2 : w.cell? ⟨9, 0, none⟩ = some (.iface 124 (.pointer (some a2)))
  c3 : w.cell? ⟨10, 0, none⟩ = some (.iface 124 (.pointer (some a3)))
  n02 : a0 ≠ a2
  n03 : a0 ≠ a3
  n23 : a2 ≠ a3
  s0 : a0.block < w.heap.size
  s2 : a2.block < w.heap.size
  s3 : a3.block < w.heap.size
  r0 : ∃ ca ta, w.heap[a0.block]? = some (.cells ca ta (0, 0))
  r2 : ∃ ca ta, w.heap[a2.block]? = some (.cells ca ta (0, 0))
  r3 : ∃ ca ta, w.heap[a3.block]? = some (.cells ca ta (0, 0))
  u0 : w.cell? ⟨8, 0, none⟩ = some (.int .i64 4096)
  u1 : w.cell? ⟨8, 1, none⟩ = some (.int .i64 128)
  u2 : w.cell? ⟨8, 2, none⟩ = some (.int .i64 1)

theorem G.ext {a0 a2 a3 : Addr} {w w' : World} (h : G a0 a2 a3 w) (k : Ext w w') : G a0 a2 a3 w' := by
  have hs := h.sz
  have e : ∀ b o, b < 11 → w'.cell? ⟨b, o, none⟩ = w.cell? ⟨b, o, none⟩ := fun b o hb => k.cell (p := ⟨b, o, none⟩) (by show b < w.heap.size; omega)
  have sz := k.size
  constructor
  · omega
  · rw [e _ _ (by decide)]; exact h.c0
  · rw [e _ _ (by decide)]; exact h.c2
  · rw [e _ _ (by decide)]; exact h.c3
  · exact h.n02
  · exact h.n03
  · exact h.n23
  · have := h.s0; omega
  · have := h.s2; omega
  · have := h.s3; omega
  · rw [k.block _ h.s0]; exact h.r0
  · rw [k.block _ h.s2]; exact h.r2
  · rw [k.block _ h.s3]; exact h.r3
  · rw [e _ _ (by decide)]; exact h.u0
  · rw [e _ _ (by decide)]; exact h.u1
  · rw [e _ _ (by decide)]; exact h.u2

/-- The error values, by their codes: nil, errAddr, errSize, errRef. -/
def errV (a0 a2 a3 : Addr) : Nat → Value
  | 0 => .nilIface
  | 1 => .iface 124 (.pointer (some a0))
  | 2 => .iface 124 (.pointer (some a2))
  | _ => .iface 124 (.pointer (some a3))
def num : Nat → Int
  | 0 => 0
  | 1 => 10
  | 2 => 11
  | _ => 12

section
variable {a0 a2 a3 : Addr}
/-- errors.Is by codes. -/
theorem is_any (k j : Nat) (hk : k ≤ 3) (h1 : 1 ≤ j) (h3 : j ≤ 3) (w : World) (hG : G a0 a2 a3 w) :
    Calls Tryd.prog 46 #[errV a0 a2 a3 k, errV a0 a2 a3 j] w fun e w' => e = .returned (.bool (k == j)) ∧ w = w' := by
  obtain ⟨ca0, ta0, r0⟩ := hG.r0
  obtain ⟨ca2, ta2, r2⟩ := hG.r2
  obtain ⟨ca3, ta3, r3⟩ := hG.r3
  have n02 := hG.n02
  have n03 := hG.n03
  have n23 := hG.n23
  match k, j, hk, h1, h3 with
  | 0, 1, _, _, _ => exact is_nil _ w
  | 0, 2, _, _, _ => exact is_nil _ w
  | 0, 3, _, _, _ => exact is_nil _ w
  | 1, 1, _, _, _ => exact is_same _ w
  | 2, 2, _, _, _ => exact is_same _ w
  | 3, 3, _, _, _ => exact is_same _ w
  | 1, 2, _, _, _ => exact is_other _ _ _ _ _ _ w n02 r0 r2
  | 1, 3, _, _, _ => exact is_other _ _ _ _ _ _ w n03 r0 r3
  | 2, 3, _, _, _ => exact is_other _ _ _ _ _ _ w n23 r2 r3
  | 2, 1, _, _, _ => exact is_other _ _ _ _ _ _ w n02.symm r2 r0
  | 3, 1, _, _, _ => exact is_other _ _ _ _ _ _ w n03.symm r3 r0
  | 3, 2, _, _, _ => exact is_other _ _ _ _ _ _ w n23.symm r3 r2
end
open Go.RowKit
section
variable {a0 a2 a3 : Addr}

theorem right_any (a : Int) (w : World) :
    Calls Tryd.prog 65 #[.int .i64 a] w fun e w' => e = .returned (.bool (decide (0 ≤ a) && decide (a < 131072))) ∧ w = w' := by
  by_cases h : 0 ≤ a
  · go_enter Tryd.func65, Tryd.ntmps65
    go_wp2
    go_ret
    exact ⟨by simp [h], rfl⟩
  · go_enter Tryd.func65, Tryd.ntmps65
    go_wp2
    go_ret
    exact ⟨by simp; omega, rfl⟩

def unlessV (b : Bool) (v : Value) : Value := if b then .nilIface else v

theorem unless_any (b : Bool) (v : Value) (w : World) :
    Calls Tryd.prog 64 #[.bool b, v] w fun e w' => e = .returned (unlessV b v) ∧ w = w' := by
  cases b
  · go_enter Tryd.func64, Tryd.ntmps64
    go_wp2
    go_ret
    exact ⟨rfl, rfl⟩
  · go_enter Tryd.func64, Tryd.ntmps64
    go_wp2
    go_ret
    exact ⟨rfl, rfl⟩

theorem numberOf_any (k : Nat) (hk : k ≤ 3) (w : World) (hG : G a0 a2 a3 w) :
    Calls Tryd.prog 62 #[errV a0 a2 a3 k] w fun e w' => e = .returned (.int .i64 (num k)) ∧ w = w' := by
  have c0 := hG.c0
  have c2 := hG.c2
  have c3 := hG.c3
  obtain ⟨ca0, ta0, r0⟩ := hG.r0
  obtain ⟨ca2, ta2, r2⟩ := hG.r2
  obtain ⟨ca3, ta3, r3⟩ := hG.r3
  have i20 := is_other a2 a0 _ _ _ _ w hG.n02.symm r2 r0
  have i30 := is_other a3 a0 _ _ _ _ w hG.n03.symm r3 r0
  have i32 := is_other a3 a2 _ _ _ _ w hG.n23.symm r3 r2
  clear r0 r2 r3 hG
  match k, hk with
  | 0, _ =>
    clear i20 i30 i32
    show Calls Tryd.prog 62 #[.nilIface] w _
    go_enter Tryd.func62, Tryd.ntmps62
    go_wp2_with (go_at_call 46; ((with_reducible refine (is_nil _ w).mono ?_); rintro e w' ⟨rfl, rfl⟩))
    go_ret
    exact ⟨rfl, rfl⟩
  | 1, _ =>
    clear i20 i30 i32
    show Calls Tryd.prog 62 #[.iface 124 (.pointer (some a0))] w _
    go_enter Tryd.func62, Tryd.ntmps62
    go_wp2_with (go_at_call 46; ((with_reducible refine (is_same _ w).mono ?_); rintro e w' ⟨rfl, rfl⟩))
    go_ret
    exact ⟨rfl, rfl⟩
  | 2, _ =>
    clear i30 i32
    have I := Lib.hid i20
    clear i20
    show Calls Tryd.prog 62 #[.iface 124 (.pointer (some a2))] w _
    go_enter Tryd.func62, Tryd.ntmps62
    go_wp2_with (go_at_call 46; first | ((with_reducible refine (is_same _ w).mono ?_); rintro e w' ⟨rfl, rfl⟩) | ((with_reducible refine I.out.mono ?_); rintro e w' ⟨rfl, rfl⟩))
    go_ret
    exact ⟨rfl, rfl⟩
  | 3, _ =>
    clear i20
    have I := Lib.hid i30
    have J := Lib.hid i32
    clear i30 i32
    show Calls Tryd.prog 62 #[.iface 124 (.pointer (some a3))] w _
    go_enter Tryd.func62, Tryd.ntmps62
    go_wp2_with (go_at_call 46; first | ((with_reducible refine (is_same _ w).mono ?_); rintro e w' ⟨rfl, rfl⟩) | ((with_reducible refine I.out.mono ?_); rintro e w' ⟨rfl, rfl⟩) | ((with_reducible refine J.out.mono ?_); rintro e w' ⟨rfl, rfl⟩))
    go_ret
    exact ⟨rfl, rfl⟩
end
open Go.RowKit
section
variable {a0 a2 a3 : Addr}

/-- A closure that answers the error of code k in each later world. -/
def Asks (a0 a2 a3 : Addr) (w : World) (v : Value) (k : Nat) : Prop :=
  ∃ f bs, v = .func (.func f) #[] bs ∧ k ≤ 3 ∧ (∀ args w, (callFunc f args).run Tryd.prog w = .ok (.enter f args) w) ∧ ∀ W, Ext w W → Calls Tryd.prog f bs W fun e w' => e = .returned (errV a0 a2 a3 k) ∧ Ext W w'

def firstK : List Nat → Nat
  | [] => 0
  | 0 :: r => firstK r
  | k :: _ => k

theorem ret_int {k : IntKind} {a b : Int} (h : a = b) : Ending.returned (.int k a) = .returned (.int k b) := by rw [h]
theorem firstK_le : ∀ (l : List Nat), (∀ k ∈ l, k ≤ 3) → firstK l ≤ 3
  | [], _ => by decide
  | 0 :: r, h => firstK_le r (fun k hk => h k (by simp [hk]))
  | (k+1) :: r, h => h (k+1) (by simp)

set_option maxHeartbeats 1000000 in
theorem told_any (ks : List Nat) (b : Nat) (cap : Nat) (vs : List Value) (w : World) (hG : G a0 a2 a3 w) (hb : b < w.heap.size) (hl : vs.length = ks.length) (hm : ks.length ≤ 100)
    (hc : ∀ i, i < ks.length → w.cell? ⟨b, i, none⟩ = some (vs.getD i undef)) (hA : ∀ i, i < ks.length → Asks a0 a2 a3 w (vs.getD i undef) (ks.getD i 0)) :
    Calls Tryd.prog 58 #[.slice (some ⟨b, 0, none⟩) ks.length cap] w fun e w' => e = .returned (.int .i64 (num (firstK ks))) ∧ Ext w w' := by
  go_enter Tryd.func58, Tryd.ntmps58
  go_wp2
  go_loopg [8] ks.length (fun m i wr => ∃ k : Nat, k + m = ks.length ∧ i = .int .i64 k ∧ firstK ks = firstK (ks.drop k) ∧ Ext w wr)
  case atStart => exact ⟨0, by omega, rfl, rfl, Ext.refl w⟩
  case round =>
    obtain ⟨k, hk, rfl, hf, he⟩ := hrel
    have hGr := hG.ext he
    have hw : w.heap.size ≤ wr.heap.size := he.size
    by_cases hlt : k < ks.length
    · obtain ⟨f, bs, hv, h3, hen, hcall⟩ := hA k hlt
      have c : wr.cell? ⟨b, k, none⟩ = some (.func (.func f) #[] bs) := by rw [he.cell (p := ⟨b, k, none⟩) hb, hc k hlt, hv]
      have hd : ks.drop k = ks.getD k 0 :: ks.drop (k + 1) := by
        rw [List.drop_eq_getElem_cons hlt]; simp [List.getD, hlt]
      generalize hq : ks.getD k 0 = q at *
      have hC := Lib.hid (And.intro hcall (And.intro hf hd))
      have hE := Lib.hid he
      have hN := Lib.hid (numberOf_any (a0 := a0) (a2 := a2) (a3 := a3) q h3)
      have hG' := Lib.hid hGr
      clear hcall hc hA hv hG hf hd hq he hGr
      by_cases hq0 : q = 0
      · subst hq0
        go_wp2_with (first | ((with_reducible refine (hC.out.1 _ hE.out).mono ?_); rintro e w1 ⟨rfl, h1⟩) | (go_at_call 62; (refine (hN.out _ ?_).mono ?_); focus (first | exact hG'.out | exact hG'.out.ext h1)); rintro e w2 ⟨rfl, rfl⟩)
        go_roundg (gk - 1)
        case measure => omega
        case rel => exact ⟨k + 1, by omega, by go_num, by rw [hC.out.2.1, hC.out.2.2]; rfl, hE.out.trans h1⟩
      · have hx : (num q != 0) = true := by
          match q, hq0, h3 with
          | 1, _, _ | 2, _, _ | 3, _, _ => rfl
        have hz : num q = num (firstK ks) := by
          rw [hC.out.2.1, hC.out.2.2]
          obtain ⟨n, rfl⟩ : ∃ n, q = n + 1 := ⟨q - 1, by omega⟩
          rfl
        have hZ := Lib.hid hz
        clear hz
        go_wp2_with (first | ((with_reducible refine (hC.out.1 _ hE.out).mono ?_); rintro e w1 ⟨rfl, h1⟩) | (go_at_call 62; (refine (hN.out _ ?_).mono ?_); focus (first | exact hG'.out | exact hG'.out.ext h1)); rintro e w2 ⟨rfl, rfl⟩)
        go_ret
        exact ⟨ret_int hZ.out, hE.out.trans h1⟩
    · have hd : ks.drop k = [] := List.drop_eq_nil_of_le (by omega)
      have hz : firstK ks = 0 := by rw [hf, hd]; rfl
      have hZ := Lib.hid hz
      have hE := Lib.hid he
      clear hz hd hf hc hA hG he hGr
      go_wp2
      go_ret
      exact ⟨ret_int (by rw [hZ.out]; rfl), hE.out⟩
end
open Go.RowKit Go
attribute [local go_sem] Oper.semAt_some
section
variable {a0 a2 a3 : Addr}

theorem numbers_any (a : Int) (w : World) :
    Calls Tryd.prog 67 #[.int .i64 a] w fun e w' => e = .returned (.func (.func 68) #[] #[.pointer (some ⟨w.heap.size, 0, none⟩)]) ∧ w' = w.alloc (.cells #[.int .i64 a] 3) := by
  go_enter Tryd.func67, Tryd.ntmps67
  go_wp2
  go_ret
  exact ⟨rfl, rfl⟩

theorem unit0 (w : World) : (Instr.index 98 (.agg #[.int .i64 4096, .int .i64 128, .int .i64 1]) (.int .i64 0)).run Tryd.prog w = .ok (.int .i64 4096) w := by kernel_rfl
theorem unit1 (w : World) : (Instr.index 98 (.agg #[.int .i64 4096, .int .i64 128, .int .i64 1]) (.int .i64 1)).run Tryd.prog w = .ok (.int .i64 128) w := by kernel_rfl
theorem unit2 (w : World) : (Instr.index 98 (.agg #[.int .i64 4096, .int .i64 128, .int .i64 1]) (.int .i64 2)).run Tryd.prog w = .ok (.int .i64 1) w := by kernel_rfl
def numXs (a : Int) : List (Array Value) := [#[.int .i64 0, .int .i64 (a / 4096)], #[.int .i64 1, .int .i64 (a % 4096 / 128)], #[.int .i64 2, .int .i64 (a % 128)]]

set_option maxHeartbeats 1000000 in
theorem numbers_iter (a : Int) (h0 : 0 ≤ a) (h1 : a < 131072) (b : Nat) (w : World) (hG : G a0 a2 a3 w) (hb : b < w.heap.size) (hc : w.cell? ⟨b, 0, none⟩ = some (.int .i64 a)) :
    Iter Tryd.prog (fun k => k = 8 ∨ k = b) 68 #[.pointer (some ⟨b, 0, none⟩)] (numXs a) w := by
  intro l J Jx W hW hJ hJx hY hJ0
  have hs := hG.sz
  have u0 : W.cell? ⟨8, 0, none⟩ = some (.int .i64 4096) := (hW.at 8 0 (by omega) (.inl (.inl rfl))).trans hG.u0
  have u1 : W.cell? ⟨8, 1, none⟩ = some (.int .i64 128) := (hW.at 8 1 (by omega) (.inl (.inl rfl))).trans hG.u1
  have u2 : W.cell? ⟨8, 2, none⟩ = some (.int .i64 1) := (hW.at 8 2 (by omega) (.inl (.inl rfl))).trans hG.u2
  have c : W.cell? ⟨b, 0, none⟩ = some (.int .i64 a) := (hW.at b 0 hb (.inl (.inr rfl))).trans hc
  have H := Lib.hid (And.intro hJ (And.intro hJx hY))
  have H0 := Lib.hid hJ0
  clear hJ hJx hY hW hG hc hJ0
  refine callsIn_of_wp Tryd.func68 rfl trivial ?_ rfl
  simp only [Tryd.ntmps68, List.size_toArray, List.length_cons, List.length_nil, Nat.reduceAdd, Nat.reduceSub, Array.replicate_succ, Array.replicate_zero, List.push_toArray, List.append_toArray, List.nil_append, List.cons_append]
  obtain ⟨f1, t1, p1, q1, hy1, hR1⟩ := H.out.2.2 0 _ W rfl H0.out
  have i0 := unit0
  have i1 := unit1
  have i2 := unit2
  gi_wp2
  refine wpIn_loop_rounds 4 ?_
  rw [roundsIn_succ]
  gi_wp2
  refine hR1.mono ?_
  rintro e W1 (⟨rfl, hJ1, hk1⟩ | ⟨rfl, hx1, _⟩)
  · obtain ⟨f2, t2, p2, q2, hy2, hR2⟩ := H.out.2.2 1 _ W1 rfl hJ1
    clear hk1 hJ1 hR1 hy1
    gi_wp2
    rw [roundsIn_succ]
    gi_wp2
    refine hR2.mono ?_
    rintro e W2 (⟨rfl, hJ2, hk2⟩ | ⟨rfl, hx2, _⟩)
    · obtain ⟨f3, t3, p3, q3, hy3, hR3⟩ := H.out.2.2 2 _ W2 rfl hJ2
      clear hk2 hJ2 hR2 hy2
      gi_wp2
      rw [roundsIn_succ]
      gi_wp2
      refine hR3.mono ?_
      rintro e W3 (⟨rfl, hJ3, hk3⟩ | ⟨rfl, hx3, _⟩)
      · clear hk3 hR3 hy3
        have HJ3 := Lib.hid hJ3
        clear hJ3
        gi_wp2
        rw [roundsIn_succ]
        gi_wp2
        go_end0
        exact ⟨⟨_, rfl⟩, .inl HJ3.out⟩
      · gi_wp2
        refine bodyPost_ret (results_none rfl _ _ _) rfl ?_
        exact ⟨⟨_, rfl⟩, .inr ⟨3, by simp [numXs], hx3⟩⟩
    · gi_wp2
      refine bodyPost_ret (results_none rfl _ _ _) rfl ?_
      exact ⟨⟨_, rfl⟩, .inr ⟨2, by simp [numXs], hx2⟩⟩
  · gi_wp2
    refine bodyPost_ret (results_none rfl _ _ _) rfl ?_
    exact ⟨⟨_, rfl⟩, .inr ⟨1, by simp [numXs], hx1⟩⟩

/-- what the walk of sum leaves -/
def psum (x y z : Int) : Int := wrap64 (wrap64 (wrap64 (wrap64 (x * 4096)) + wrap64 (y * 128)) + wrap64 z)

set_option maxHeartbeats 1000000 in
theorem sum_any (x y z : Int) (w : World) (hG : G a0 a2 a3 w) :
    Calls Tryd.prog 60 #[.agg #[.int .i64 x, .int .i64 y, .int .i64 z]] w fun e w' => e = .returned (.int .i64 (psum x y z)) ∧ Ext w w' := by
  have hs := hG.sz
  have z1 : 8 < w.heap.size := by omega
  have u0 := hG.u0
  have u1 := hG.u1
  have u2 := hG.u2
  have i0 := unit0
  have i1 := unit1
  have i2 := unit2
  clear hG
  go_enter Tryd.func60, Tryd.ntmps60
  go_wp2
  refine wp_loop_rounds 4 ?_
  rw [rounds_succ]
  go_wp2
  rw [rounds_succ]
  go_wp2
  rw [rounds_succ]
  go_wp2
  rw [rounds_succ]
  go_wp2
  go_ret
  exact ⟨rfl, (Below.refl _ _).alloc (Nat.le_refl _) _⟩

def plA (a : Int) (k : Nat) : Array Value := #[.int .i64 (if 1 ≤ k then a / 4096 else 0), .int .i64 (if 2 ≤ k then a % 4096 / 128 else 0), .int .i64 (if 3 ≤ k then a % 128 else 0)]

theorem numXs_cases {a : Int} {k : Nat} {x : Array Value} (h : (numXs a)[k]? = some x) :
    (k = 0 ∧ x = #[.int .i64 0, .int .i64 (a / 4096)]) ∨ (k = 1 ∧ x = #[.int .i64 1, .int .i64 (a % 4096 / 128)]) ∨ (k = 2 ∧ x = #[.int .i64 2, .int .i64 (a % 128)]) := by
  rcases k with _ | _ | _ | k <;> simp [numXs] at h
  · exact .inl ⟨rfl, h.symm⟩
  · exact .inr (.inl ⟨rfl, h.symm⟩)
  · exact .inr (.inr ⟨rfl, h.symm⟩)

set_option maxHeartbeats 2000000 in
theorem placeOf_any (a : Int) (h0 : 0 ≤ a) (h1 : a < 131072) (w : World) (hG : G a0 a2 a3 w) :
    Calls Tryd.prog 66 #[.int .i64 a] w fun e w' => e = .returned (.agg #[.int .i64 (a / 4096), .int .i64 (a % 4096 / 128), .int .i64 (a % 128)]) ∧ Ext w w' := by
  refine calls_of_marks Tryd.func66 rfl ?_
  simp only [Tryd.ntmps66, List.size_toArray, List.length_cons, List.length_nil, Nat.reduceAdd, Nat.reduceSub, Array.replicate_succ, Array.replicate_zero, List.push_toArray, List.append_toArray, List.nil_append, List.cons_append]
  have G' := Lib.hid hG
  clear hG
  go_wp2_with (go_at_call 67; refine (numbers_any _ _).mono ?_; rintro e w' ⟨rfl, rfl⟩)
  have hs := G'.out.sz
  refine wp_world ?_
  intro w1 hw1
  have hE1 : Ext w w1 := by rw [hw1]; exact ((((Below.refl _ _).alloc (Nat.le_refl _) _).alloc (by simp) _).alloc (by simp; omega) _)
  have hz1 : w1.heap.size = w.heap.size + 3 := by rw [hw1]; simp
  have hb0 : Blk w1 w.heap.size #[.int .i64 0, .int .i64 0, .int .i64 0] 99 := by rw [hw1]; exact ((Blk.new _ _ _).alloc _).alloc _
  have hb1 : Blk w1 (w.heap.size + 1) (plA a 0) 99 := by rw [hw1]; have := (Blk.new (w.alloc (.cells #[.int .i64 0, .int .i64 0, .int .i64 0] 99)) (plA a 0) 99).alloc (.cells #[.int .i64 a] 3); rwa [World.size_alloc] at this
  have hc1 : w1.cell? ⟨w.heap.size + 1 + 1, 0, none⟩ = some (.int .i64 a) := by
    have := (Blk.new ((w.alloc (.cells #[.int .i64 0, .int .i64 0, .int .i64 0] 99)).alloc (.cells #[.int .i64 0, .int .i64 0, .int .i64 0] 99)) #[.int .i64 a] 3).cell 0
    rw [World.size_alloc, World.size_alloc] at this
    rw [hw1]; exact this
  clear hw1
  refine range_outer (D := fun k => k = 8 ∨ k = w.heap.size + 1 + 1) rfl (enters_of Tryd.func68 (by kernel_rfl) rfl)
    (numbers_iter (a0 := a0) (a2 := a2) (a3 := a3) a h0 h1 (w.heap.size + 1 + 1) w1 (G'.out.ext hE1) (by omega) hc1) (by rintro k (rfl | rfl) <;> omega) (Keep.refl _ _ _) (by intro x hx; simp [numXs] at hx; rcases hx with rfl | rfl | rfl <;> rfl)
    (fun k W => Ext w W ∧ Blk W w.heap.size #[.int .i64 0, .int .i64 0, .int .i64 0] 99 ∧ Blk W (w.heap.size + 1) (plA a k) 99) (fun _ _ _ => False) ?hI (fun _ _ _ _ h _ => h.elim) ⟨hE1, hb0, hb1⟩ ?hround ?hdone (fun _ _ _ _ _ _ h _ => h.elim)
  case hI =>
    rintro k A B ⟨h1, h2, h3⟩ hb
    exact ⟨Below.trans h1 (hb.mono (by omega)), h2.below hb (by omega), h3.below hb (by omega)⟩
  case hround =>
    rintro l k x W hx hl hr ⟨hE, hB0, hB1⟩
    have H := Lib.hid (And.intro hE (And.intro hB0 hB1))
    clear hE hB0 hB1
    rcases numXs_cases hx with ⟨rfl, rfl⟩ | ⟨rfl, rfl⟩ | ⟨rfl, rfl⟩
    all_goals
      clear hx
      gi_wp2
      refine to_body hl hr ?_
      intro W' hW' hr'
      obtain ⟨hE, hB0, hB1⟩ := H.out
      replace hE := Below.trans hE (hW'.mono (by omega))
      replace hB0 := hB0.below hW' (by omega)
      replace hB1 := hB1.below hW' (by omega)
      have c0 := hB1.cell 0
      have c1 := hB1.cell 1
      have c2 := hB1.cell 2
      have f0 := hB1.frozen 0
      have f1 := hB1.frozen 1
      have f2 := hB1.frozen 2
      simp [plA] at c0 c1 c2
      have H' := Lib.hid (And.intro hE (And.intro hB0 hB1))
      clear hE hB0 hB1 H hr hr' hW'
      gi_wp2
      exact ⟨(Keep.refl _ _ _).setCell _ _ (.inl (by show w.heap.size + 1 < _; omega)) (.inl (by show ¬ (w.heap.size + 1 = _ ∨ w.heap.size + 1 = _); omega)),
        H'.out.1.setCell (p := ⟨w.heap.size + 1, _, none⟩) (by show w.heap.size ≤ w.heap.size + 1; omega) _, H'.out.2.1.other _ _ (by show w.heap.size ≠ w.heap.size + 1; omega), H'.out.2.2.set _ _⟩
  case hdone =>
    rintro K W hK ⟨hE, hB0, hB1⟩ hk
    have c0 := hB1.cell 0
    have c1 := hB1.cell 1
    have c2 := hB1.cell 2
    have d0 := hB0.cell 0
    have d1 := hB0.cell 1
    have d2 := hB0.cell 2
    have f0 := hB0.frozen 0
    have f1 := hB0.frozen 1
    have f2 := hB0.frozen 2
    simp [plA, numXs] at c0 c1 c2 d0 d1 d2
    have H := Lib.hid (And.intro hE (And.intro hB0 (And.intro hk hK)))
    clear hE hB0 hB1 hk hK
    go_wp2
    obtain ⟨hE, hB0, hk, hK⟩ := H.out
    have hF := (((hB0.set 0 (.int .i64 (a / 4096))).set 1 (.int .i64 (a % 4096 / 128))).set 2 (.int .i64 (a % 128))).putObj K (.deferred none) (by omega)
    have e0 := hF.cell 0
    have e1 := hF.cell 1
    have e2 := hF.cell 2
    simp at e0 e1 e2
    refine leave_mark (v := .agg #[.int .i64 (a / 4096), .int .i64 (a % 4096 / 128), .int .i64 (a % 128)]) ?_ ?_ ⟨rfl, ?_⟩
    · rw [Below.heap_setCell _ _ _ _ (by show K ≠ w.heap.size; omega), Below.heap_setCell _ _ _ _ (by show K ≠ w.heap.size; omega), Below.heap_setCell _ _ _ _ (by show K ≠ w.heap.size; omega)]
      exact hk
    · simp [results, Tryd.results66, go_sem, e0, e1, e2]
    · exact (((hE.setCell (p := ⟨w.heap.size, _, none⟩) (Nat.le_refl _) _).setCell (p := ⟨w.heap.size, _, none⟩) (Nat.le_refl _) _).setCell (p := ⟨w.heap.size, _, none⟩) (Nat.le_refl _) _).trans (below_putObj _ _ _ _ (by omega))

end
open Go.RowKit Go
section
variable {a0 a2 a3 : Addr}

theorem ret_val {a b : Value} (h : a = b) : Ending.returned a = .returned b := by rw [h]
theorem unless_eq {b c : Bool} {v : Value} (h : b = c) : unlessV b v = unlessV c v := by rw [h]
theorem qs {P : Program} {f : FuncId} {args : Array Value} {w : World} {n : Nat} {v : Value}
    (h : Calls P f args (w.drewN n) fun e w' => e = .returned v ∧ w.drewN n = w') : Calls P f args (w.drewN n) fun e w'' => e = .returned v ∧ ∃ m, w'' = w.drewN m :=
  h.mono fun _ _ ⟨he, hm⟩ => ⟨he, n, hm.symm⟩
theorem ext_drewN (w : World) (n : Nat) : Ext w (w.drewN n) := by
  induction n with
  | zero => exact Ext.refl _
  | succ n ih => exact ih.drew

theorem noPlace_any (x y z : Int) (w : World) :
    Calls Tryd.prog 59 #[.agg #[.int .i64 x, .int .i64 y, .int .i64 z]] w fun e w' => e = .returned (.func (.func 63) #[] #[.pointer (some ⟨w.heap.size, 0, none⟩)]) ∧ w' = w.alloc (.cells #[.int .i64 x, .int .i64 y, .int .i64 z] 99) := by
  go_enter Tryd.func59, Tryd.ntmps59
  go_wp2
  go_ret
  exact ⟨rfl, rfl⟩

def codeB (c : Bool) (j : Nat) : Nat := if c then 0 else j
theorem errV1 (c : Bool) : unlessV c (.iface 124 (.pointer (some a0))) = errV a0 a2 a3 (codeB c 1) := by cases c <;> rfl
theorem errV2 (c : Bool) : unlessV c (.iface 124 (.pointer (some a2))) = errV a0 a2 a3 (codeB c 2) := by cases c <;> rfl
theorem errV3 (c : Bool) : unlessV c (.iface 124 (.pointer (some a3))) = errV a0 a2 a3 (codeB c 3) := by cases c <;> rfl
theorem k_le (c : Bool) (j : Nat) (h : j ≤ 3) : codeB c j ≤ 3 := by cases c <;> simp [codeB, h]


theorem psum_in (x y z : Int) (hx : 0 ≤ x ∧ x < 32) (hy : 0 ≤ y ∧ y < 32) (hz : 0 ≤ z ∧ z < 128) : psum x y z = x * 4096 + y * 128 + z := by
  unfold psum wrap64; omega
/-- is it a place, as the program asks it? -/
def placeB (x y z : Int) : Bool := decide (0 ≤ x) && decide (x < 32) && decide (0 ≤ y) && decide (y < 32) && decide (0 ≤ z) && decide (z < 128)

end
open Go.RowKit Go
section
variable {a0 a2 a3 : Addr}

theorem size_int (w : World) : (sizeOf 3).run Tryd.prog w = .ok 1 w := by kernel_rfl
theorem eql_place (x y z x' y' z' : Int) (w : World) : (binOp .eql 99 (.agg #[.int .i64 x, .int .i64 y, .int .i64 z]) (.agg #[.int .i64 x', .int .i64 y', .int .i64 z'])).run Tryd.prog w = .ok (.bool ([x, y, z] == [x', y', z'])) w :=
  run_eql_ints w 99 3 3 .i64 Tryd.underlying99 Tryd.underlying3 size_int [x, y, z] [x', y', z'] rfl rfl

theorem place_eq (x y z : Int) (h : 0 ≤ psum x y z ∧ psum x y z < 131072) : (psum x y z / 4096 == x && (psum x y z % 4096 / 128 == y && psum x y z % 128 == z)) = placeB x y z := by
  rw [Bool.eq_iff_iff]
  simp only [beq_iff_eq, placeB, Bool.and_eq_true, decide_eq_true_eq]
  constructor
  · rintro ⟨h1, h2, h3⟩; omega
  · rintro ⟨⟨⟨⟨⟨h1, h2⟩, h3⟩, h4⟩, h5⟩, h6⟩
    rw [psum_in x y z ⟨h1, h2⟩ ⟨h3, h4⟩ ⟨h5, h6⟩]; omega
theorem place_no (x y z : Int) (h : ¬ (0 ≤ psum x y z ∧ psum x y z < 131072)) : placeB x y z = false := by
  rw [Bool.eq_false_iff]
  intro hp
  simp only [placeB, Bool.and_eq_true, decide_eq_true_eq] at hp
  obtain ⟨⟨⟨⟨⟨h1, h2⟩, h3⟩, h4⟩, h5⟩, h6⟩ := hp
  rw [psum_in x y z ⟨h1, h2⟩ ⟨h3, h4⟩ ⟨h5, h6⟩] at h
  omega

set_option maxHeartbeats 1000000 in
theorem noPlace_asks (x y z : Int) (w : World) (hG : G a0 a2 a3 w) (b : Nat) (hb : b < w.heap.size) (hc : ∀ i, w.cell? ⟨b, i, none⟩ = #[.int .i64 x, .int .i64 y, .int .i64 z][i]?) :
    Asks a0 a2 a3 w (.func (.func 63) #[] #[.pointer (some ⟨b, 0, none⟩)]) (codeB (placeB x y z) 1) := by
  refine ⟨_, _, rfl, k_le _ _ (by decide), enters_of Tryd.func63 (by kernel_rfl) rfl, fun W hW => ?_⟩
  have hg := hG.ext hW
  have gs := hg.sz
  have c0 := (extAt hW b 0 hb).trans (hc 0)
  have c1 := (extAt hW b 1 hb).trans (hc 1)
  have c2 := (extAt hW b 2 hb).trans (hc 2)
  simp at c0 c1 c2
  rw [← errV1 (a0 := a0) (a2 := a2) (a3 := a3)]
  have H := Lib.hid hg
  have hbW : b < W.heap.size := Nat.lt_of_lt_of_le hb hW.size
  clear hc hb hG hW hg
  go_enter Tryd.func63, Tryd.ntmps63
  go_wp2_with (go_at_call 60; refine (sum_any (a0 := a0) (a2 := a2) (a3 := a3) _ _ _ _ ?_).mono ?_; exact H.out; rintro e w1 ⟨rfl, h1⟩)
  have g1 := (H.out.ext h1).c0
  have d0 := (extAt h1 b 0 hbW).trans c0
  have d1 := (extAt h1 b 1 hbW).trans c1
  have d2 := (extAt h1 b 2 hbW).trans c2
  have eq := eql_place
  have hz : W.heap.size ≤ w1.heap.size := h1.size
  have H1 := Lib.hid (And.intro (H.out.ext h1) h1)
  clear c0 c1 c2 H h1
  by_cases hr : 0 ≤ psum x y z ∧ psum x y z < 131072
  · have HR := Lib.hid hr
    obtain ⟨hr1, hr2⟩ := hr
    have hP := Lib.hid (fun W' => placeOf_any (a0 := a0) (a2 := a2) (a3 := a3) (psum x y z) hr1 hr2 W')
    have hR := Lib.hid (fun W' => (show Calls Tryd.prog 65 #[.int .i64 (psum x y z)] W' (fun e w' => e = .returned (.bool true) ∧ W' = w') by have := right_any (psum x y z) W'; rwa [show (decide (0 ≤ psum x y z) && decide (psum x y z < 131072)) = true by simp [hr1, hr2]] at this))
    go_region_with (first | (go_at_call 65; refine (hR.out _).mono ?_; rintro e w2 ⟨rfl, rfl⟩) | (go_at_call 66; go_loud (refine (hP.out _ ?_).mono ?_; exact H1.out.1.ext (Ext.refl _).drew; rintro e w2 ⟨rfl, h2⟩; have g2 := (extAt h2 7 0 (by show _ < w1.heap.size; omega)).trans g1; have e0 := (extAt h2 b 0 (by show _ < w1.heap.size; omega)).trans d0;  have e1 := (extAt h2 b 1 (by show _ < w1.heap.size; omega)).trans d1; have e2 := (extAt h2 b 2 (by show _ < w1.heap.size; omega)).trans d2)) | (go_at_call 64; refine (unless_any _ _ _).mono ?_; rintro e w3 ⟨rfl, rfl⟩))
    all_goals
      go_wp2
      go_ret
      exact ⟨ret_val (unless_eq (place_eq x y z HR.out)), (H1.out.2.trans ((Ext.refl w1).drew.trans h2))⟩
  · have hR := Lib.hid (fun W' => (show Calls Tryd.prog 65 #[.int .i64 (psum x y z)] W' (fun e w' => e = .returned (.bool false) ∧ W' = w') by have := right_any (psum x y z) W'; rwa [show (decide (0 ≤ psum x y z) && decide (psum x y z < 131072)) = false by rw [Bool.eq_false_iff]; simpa using hr] at this))
    have HR := Lib.hid hr
    clear hr
    go_quiet ((first | (go_at_call 65; exact qs (hR.out _)) | (go_at_call 64; exact qs (unless_any _ _ _))))
    go_wp2
    go_ret
    exact ⟨ret_val (unless_eq (place_no x y z HR.out).symm), H1.out.2.trans (ext_drewN _ _)⟩
end
open Go.RowKit Go
section
variable {a0 a2 a3 : Addr}

theorem told1 (k : Nat) (v : Value) (b : Nat) (t : TypeId) (w : World) (hG : G a0 a2 a3 w) (hB : Blk w b #[v] t) (hA : Asks a0 a2 a3 w v k) :
    Calls Tryd.prog 58 #[.slice (some ⟨b, 0, none⟩) 1 1] w fun e w' => e = .returned (.int .i64 (num k)) ∧ Ext w w' := by
  have := told_any (a0 := a0) (a2 := a2) (a3 := a3) [k] b 1 [v] w hG hB.lt rfl (by simp) (by
    intro i hi; rw [hB.cell]; rcases i with _ | i <;> simp at hi ⊢) (by intro i hi; rcases i with _ | i <;> simp at hi ⊢; exact hA)
  rw [show firstK [k] = k by rcases k with _ | k <;> rfl] at this
  exact this
theorem ext2 (w : World) (o o' : Obj) : Ext w ((w.alloc o).alloc o') := ((Below.refl _ _).alloc (Nat.le_refl _) _).alloc (by simp) _
theorem ext3 (w : World) (o o' o2 : Obj) : Ext w (((w.alloc o).alloc o').alloc o2) := (ext2 w o o').alloc (by simp; omega) _
theorem ext4 (w : World) (o o' o2 o3 : Obj) : Ext w ((((w.alloc o).alloc o').alloc o2).alloc o3) := (ext3 w o o' o2).alloc (by simp; omega) _
theorem ext5 (w : World) (o o' o2 o3 o4 : Obj) : Ext w (((((w.alloc o).alloc o').alloc o2).alloc o3).alloc o4) := (ext4 w o o' o2 o3).alloc (by simp; omega) _

/-- told over one closure, with one captured box laid ahead. -/
abbrev ToldOne (f : FuncId) (k : Nat) (bx : Obj) (w : World) : Prop :=
    Calls Tryd.prog 58 #[.slice (some ⟨w.heap.size + 1, 0, none⟩) 1 1] ((w.alloc bx).alloc (.cells #[.func (.func f) #[] #[.pointer (some ⟨w.heap.size, 0, none⟩)]] 102)) fun e w' => e = .returned (.int .i64 (num k)) ∧ Ext w w'
theorem told_one (f : FuncId) (k : Nat) (bx : Obj) (w : World) (hG : G a0 a2 a3 w)
    (hA : ∀ W, Ext (w.alloc bx) W → G a0 a2 a3 W → Asks a0 a2 a3 W (.func (.func f) #[] #[.pointer (some ⟨w.heap.size, 0, none⟩)]) k) :
    Calls Tryd.prog 58 #[.slice (some ⟨w.heap.size + 1, 0, none⟩) 1 1] ((w.alloc bx).alloc (.cells #[.func (.func f) #[] #[.pointer (some ⟨w.heap.size, 0, none⟩)]] 102)) fun e w' => e = .returned (.int .i64 (num k)) ∧ Ext w w' := by
  have hB := Blk.new (w.alloc bx) #[.func (.func f) #[] #[.pointer (some ⟨w.heap.size, 0, none⟩)]] 102
  rw [World.size_alloc] at hB
  have g2 := hG.ext (ext2 w bx (.cells #[.func (.func f) #[] #[.pointer (some ⟨w.heap.size, 0, none⟩)]] 102))
  exact (told1 k _ _ _ _ g2 hB (hA _ ((Below.refl _ _).alloc (Nat.le_refl _) _) g2)).mono fun e w' ⟨he, hw⟩ => ⟨he, (ext2 w _ _).trans hw⟩

theorem box1 (w : World) (v : Value) (t : TypeId) {W : World} (h : Ext (w.alloc (.cells #[v] t)) W) : W.cell? ⟨w.heap.size, 0, none⟩ = some v := by
  rw [extAt h w.heap.size 0 (by simp)]; exact (Blk.new w #[v] t).cell 0
theorem boxlt (w : World) (o : Obj) {W : World} (h : Ext (w.alloc o) W) : w.heap.size < W.heap.size := by
  have := h.size; simp at this; omega

theorem told_place (x y z : Int) (k : Nat) (hk : codeB (placeB x y z) 1 = k) (w : World) (hG : G a0 a2 a3 w) : ToldOne 63 k (.cells #[.int .i64 x, .int .i64 y, .int .i64 z] 99) w :=
  told_one (a0 := a0) (a2 := a2) (a3 := a3) 63 k (.cells #[.int .i64 x, .int .i64 y, .int .i64 z] 99) w hG (fun W h g => hk ▸ noPlace_asks x y z _ g _ (boxlt w _ h) (fun i => by
    rw [extAt h w.heap.size i (by simp)]; exact (Blk.new w _ _).cell i))

theorem ret_two {a b c : Int} (h : a = b) : Ending.returned (.tuple #[.int .i64 a, .int .i64 c]) = .returned (.tuple #[.int .i64 b, .int .i64 c]) := by rw [h]
end
open Go.RowKit Go
section
variable {a0 a2 a3 : Addr}

set_option maxHeartbeats 1000000 in
theorem join_no (x y z : Int) (h : placeB x y z = false) (w : World) (hG : G a0 a2 a3 w) :
    Calls Tryd.prog 51 #[.int .i64 x, .int .i64 y, .int .i64 z] w fun e w' => e = .returned (.tuple #[.int .i64 0, .int .i64 10]) ∧ Ext w w' := by
  have hT0 := told_place x y z 1 (by rw [h]; rfl) (w.alloc (.cells #[.int .i64 x, .int .i64 y, .int .i64 z] 99)) (hG.ext ((Below.refl _ _).alloc (Nat.le_refl _) _))
  unfold ToldOne at hT0
  simp only [World.size_alloc] at hT0
  have hT := Lib.hid hT0
  clear hT0 h hG
  go_enter Tryd.func51, Tryd.ntmps51
  go_wp2_with (first | (go_at_call 59; refine (noPlace_any _ _ _ _).mono ?_; rintro e w1 ⟨rfl, rfl⟩) | (go_at_call 58; refine hT.out.mono ?_; rintro e w1 ⟨rfl, h1⟩))
  go_ret2
  exact ⟨rfl, Ext.trans ((Below.refl _ _).alloc (Nat.le_refl _) _) h1⟩

set_option maxHeartbeats 1000000 in
theorem join_ok (x y z : Int) (hx : 0 ≤ x ∧ x < 32) (hy : 0 ≤ y ∧ y < 32) (hz : 0 ≤ z ∧ z < 128) (w : World) (hG : G a0 a2 a3 w) :
    Calls Tryd.prog 51 #[.int .i64 x, .int .i64 y, .int .i64 z] w fun e w' => e = .returned (.tuple #[.int .i64 (x * 4096 + y * 128 + z), .int .i64 0]) ∧ Ext w w' := by
  have hT0 := told_place x y z 0 (by rw [show placeB x y z = true by simp [placeB, hx, hy, hz]]; rfl) (w.alloc (.cells #[.int .i64 x, .int .i64 y, .int .i64 z] 99)) (hG.ext ((Below.refl _ _).alloc (Nat.le_refl _) _))
  unfold ToldOne at hT0
  simp only [World.size_alloc] at hT0
  have hT := Lib.hid hT0
  have hS := Lib.hid (fun W (h : Ext w W) => sum_any (a0 := a0) (a2 := a2) (a3 := a3) x y z W (hG.ext h))
  have hq := Lib.hid (psum_in x y z hx hy hz)
  have hsz := hG.sz
  clear hT0 hG hx hy hz
  go_enter Tryd.func51, Tryd.ntmps51
  go_wp2_with (first | (go_at_call 59; refine (noPlace_any _ _ _ _).mono ?_; rintro e w1 ⟨rfl, rfl⟩) | (go_at_call 58; refine hT.out.mono ?_; rintro e w1 ⟨rfl, h1⟩; have hB := (Blk.new w #[.int .i64 x, .int .i64 y, .int .i64 z] 99).ext h1; have c0 := hB.cell 0; have c1 := hB.cell 1; have c2 := hB.cell 2; simp at c0 c1 c2; have h1' := Ext.trans ((Below.refl w.heap.size w).alloc (Nat.le_refl _) _) h1; clear h1 hB) | (go_at_call 60; refine (hS.out _ h1').mono ?_; rintro e w2 ⟨rfl, h2⟩))
  go_ret2
  exact ⟨ret_two hq.out, h1'.trans h2⟩

end
end J
end Go.Proofs.YtfpefffgegphnaaDoor
