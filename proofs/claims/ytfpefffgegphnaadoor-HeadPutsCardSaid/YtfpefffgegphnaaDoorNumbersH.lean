/- head: a coder's numbers, with their fields, as an iterator. -/
import Derived.Test.YtfpefffgegphnaaDoorRV
import Derived.Test.YtfpefffgegphnaaDoorHeads
import Derived.Test.YtfpefffgegphnaaDoorKeepU
import Derived.Test.YtfpefffgegphnaaDoorIs
import Derived.Test.YtfpefffgegphnaaDoorDraw
import Derived.Deep.RegionWith
import Derived.BigRegion
import Derived.Deep.LoopGhost
namespace Go.Proofs.YtfpefffgegphnaaDoor
open Go.RowKit Go
attribute [local go_sem] Oper.semAt_some
namespace H
abbrev at_ (c k : Nat) : Value := .pointer (some ⟨c, k, none⟩)
abbrev fldV (a b s : Int) : Value := .agg #[.int .i64 a, .int .i64 b, .int .i64 s]
def numXs (c : Nat) : List (Array Value) := [#[fldV 1 60 1, at_ c 0], #[fldV 1 3 1, at_ c 2], #[fldV 0 255 1, at_ c 3], #[fldV 0 40000 3, at_ c 1]]
def ftab : Array Value := #[.int .i64 1, .int .i64 60, .int .i64 1, .int .i64 1, .int .i64 3, .int .i64 1, .int .i64 0, .int .i64 255, .int .i64 1, .int .i64 0, .int .i64 40000, .int .i64 3]
/-- The table of fields, as it is laid. -/
structure FTab (w : World) : Prop where
  lt : 6 < w.heap.size
  c : ∀ i, i < 12 → w.cell? ⟨6, i, none⟩ = ftab[i]?
theorem FTab.ext {w w' : World} (h : FTab w) (k : Ext w w') : FTab w' := ⟨by have := h.lt; have := k.size; omega, fun i hi => (k.cell (p := ⟨6, i, none⟩) h.lt).trans (h.c i hi)⟩
theorem FTab.keep {D : Nat → Prop} {S : Nat} {w w' : World} (h : FTab w) (k : Keep D S w w') (hd : D 6) : FTab w' :=
  ⟨by have := h.lt; have := k.size; omega, fun i hi => (k.at _ i h.lt (.inl hd)).trans (h.c i hi)⟩
theorem FTab.keepU {D u : Nat → Prop} {S : Nat} {w w' : World} (h : FTab w) (k : KeepU D u S w w') (hd : D 6) : FTab w' :=
  ⟨by have := h.lt; have := k.size; omega, fun i hi => (k.cell (p := ⟨6, i, none⟩) h.lt hd).trans (h.c i hi)⟩
section
abbrev ptrsV (c : Nat) : Value := .agg #[at_ c 0, at_ c 2, at_ c 3, at_ c 1]
theorem idx0 (c : Nat) (w : World) : (Instr.index 115 (ptrsV c) (.int .i64 0)).run Tryd.prog w = .ok (at_ c 0) w := by kernel_rfl
theorem idx1 (c : Nat) (w : World) : (Instr.index 115 (ptrsV c) (.int .i64 1)).run Tryd.prog w = .ok (at_ c 2) w := by kernel_rfl
theorem idx2 (c : Nat) (w : World) : (Instr.index 115 (ptrsV c) (.int .i64 2)).run Tryd.prog w = .ok (at_ c 3) w := by kernel_rfl
theorem idx3 (c : Nat) (w : World) : (Instr.index 115 (ptrsV c) (.int .i64 3)).run Tryd.prog w = .ok (at_ c 1) w := by kernel_rfl
set_option maxHeartbeats 4000000 in
set_option maxRecDepth 100000 in
theorem numbers_iter (c : Nat) (w : World) (hT : FTab w) :
    IterV Tryd.prog (fun k => k = 6) 56 #[at_ c 0] #[] (numXs c) w := by
  intro l0 J Jx u0 W hW hJ hJx hB hBx hY hJ0
  have HT := Lib.hid (hT.keep hW rfl)
  have E1 : Ext W W.drew := (Ext.refl W).drew
  have H := Lib.hid hY
  have H0 := Lib.hid (hJ 0 u0 W W.drew hJ0 E1 (fun b hb => rfl))
  clear hJ hJx hB hBx hY hJ0 hT hW E1
  refine callsIn_of_wp Tryd.func56 rfl trivial ?_ rfl
  simp only [Tryd.ntmps56, List.size_toArray, List.length_cons, List.length_nil, Nat.reduceAdd, Nat.reduceSub, Array.replicate_succ, Array.replicate_zero, List.push_toArray, List.append_toArray, List.nil_append, List.cons_append]
  gi_wp2
  gi_region
  gi_wp2
  gi_loopw [4, 5, 23] (fun f p i wr => ∃ (k : Nat) (u' : Nat → Prop), i = .int .i64 k ∧ k ≤ 4 ∧ J k u' wr ∧ (∀ b, u' b → u0 b ∨ W.heap.size ≤ b) ∧ KeepU (fun k => k = 6) u0 W.heap.size W wr) (fun f p i _ => 4 - (intOf i).toNat)
  case atStart => exact ⟨0, u0, rfl, by omega, H0.out, fun b hb => .inl hb, ⟨Nat.le_refl _, fun _ _ _ => rfl⟩⟩
  case round =>
    obtain ⟨k, u', rfl, hk, hJk, hu', hK⟩ := hrel
    have hF := HT.out.keepU hK rfl
    rcases k with _ | _ | _ | _ | _ | k
    · have t0 := hF.c 0 (by decide)
      have t1 := hF.c 1 (by decide)
      have t2 := hF.c 2 (by decide)
      simp only [ftab, List.getElem?_toArray, List.getElem?_cons_zero, List.getElem?_cons_succ] at t0 t1 t2
      obtain ⟨f1, q1, p1, b1, hy1, hR1⟩ := H.out 0 u' _ wr rfl hJk
      have HK := Lib.hid (And.intro hu' hK)
      clear hu' hK hJk hF hk
      have i0 := fun W => idx0 c W
      gi_wp2
      refine hR1.mono ?_
      rintro e W2 ⟨u2, hu2, (⟨rfl, hJ2, hk2⟩ | ⟨rfl, hx2, hk2⟩)⟩
      · have HJ := Lib.hid (And.intro hJ2 (And.intro hk2 hu2))
        clear hJ2 hk2 hu2
        gi_wp2
        refine ⟨⟨1, u2, rfl, by decide, HJ.out.1, fun b hb => ?_, HK.out.2.trans HJ.out.2.1 HK.out.1⟩, by decide⟩
        rcases HJ.out.2.2 b hb with h | h
        · exact HK.out.1 b h
        · have := HK.out.2.size; exact .inr (by omega)
      · have HJ := Lib.hid hx2
        clear hx2 hk2 hu2
        gi_wp2
        refine bodyPost_ret (results_none rfl _ _ _) rfl ?_
        exact ⟨⟨_, rfl⟩, .inr ⟨1, u2, by simp [numXs], HJ.out⟩⟩
    · have t0 := hF.c 3 (by decide)
      have t1 := hF.c 4 (by decide)
      have t2 := hF.c 5 (by decide)
      simp only [ftab, List.getElem?_toArray, List.getElem?_cons_zero, List.getElem?_cons_succ] at t0 t1 t2
      obtain ⟨f1, q1, p1, b1, hy1, hR1⟩ := H.out 1 u' _ wr rfl hJk
      have HK := Lib.hid (And.intro hu' hK)
      clear hu' hK hJk hF hk
      have i0 := fun W => idx1 c W
      gi_wp2
      refine hR1.mono ?_
      rintro e W2 ⟨u2, hu2, (⟨rfl, hJ2, hk2⟩ | ⟨rfl, hx2, hk2⟩)⟩
      · have HJ := Lib.hid (And.intro hJ2 (And.intro hk2 hu2))
        clear hJ2 hk2 hu2
        gi_wp2
        refine ⟨⟨2, u2, rfl, by decide, HJ.out.1, fun b hb => ?_, HK.out.2.trans HJ.out.2.1 HK.out.1⟩, by decide⟩
        rcases HJ.out.2.2 b hb with h | h
        · exact HK.out.1 b h
        · have := HK.out.2.size; exact .inr (by omega)
      · have HJ := Lib.hid hx2
        clear hx2 hk2 hu2
        gi_wp2
        refine bodyPost_ret (results_none rfl _ _ _) rfl ?_
        exact ⟨⟨_, rfl⟩, .inr ⟨2, u2, by simp [numXs], HJ.out⟩⟩
    · have t0 := hF.c 6 (by decide)
      have t1 := hF.c 7 (by decide)
      have t2 := hF.c 8 (by decide)
      simp only [ftab, List.getElem?_toArray, List.getElem?_cons_zero, List.getElem?_cons_succ] at t0 t1 t2
      obtain ⟨f1, q1, p1, b1, hy1, hR1⟩ := H.out 2 u' _ wr rfl hJk
      have HK := Lib.hid (And.intro hu' hK)
      clear hu' hK hJk hF hk
      have i0 := fun W => idx2 c W
      gi_wp2
      refine hR1.mono ?_
      rintro e W2 ⟨u2, hu2, (⟨rfl, hJ2, hk2⟩ | ⟨rfl, hx2, hk2⟩)⟩
      · have HJ := Lib.hid (And.intro hJ2 (And.intro hk2 hu2))
        clear hJ2 hk2 hu2
        gi_wp2
        refine ⟨⟨3, u2, rfl, by decide, HJ.out.1, fun b hb => ?_, HK.out.2.trans HJ.out.2.1 HK.out.1⟩, by decide⟩
        rcases HJ.out.2.2 b hb with h | h
        · exact HK.out.1 b h
        · have := HK.out.2.size; exact .inr (by omega)
      · have HJ := Lib.hid hx2
        clear hx2 hk2 hu2
        gi_wp2
        refine bodyPost_ret (results_none rfl _ _ _) rfl ?_
        exact ⟨⟨_, rfl⟩, .inr ⟨3, u2, by simp [numXs], HJ.out⟩⟩
    · have t0 := hF.c 9 (by decide)
      have t1 := hF.c 10 (by decide)
      have t2 := hF.c 11 (by decide)
      simp only [ftab, List.getElem?_toArray, List.getElem?_cons_zero, List.getElem?_cons_succ] at t0 t1 t2
      obtain ⟨f1, q1, p1, b1, hy1, hR1⟩ := H.out 3 u' _ wr rfl hJk
      have HK := Lib.hid (And.intro hu' hK)
      clear hu' hK hJk hF hk
      have i0 := fun W => idx3 c W
      gi_wp2
      refine hR1.mono ?_
      rintro e W2 ⟨u2, hu2, (⟨rfl, hJ2, hk2⟩ | ⟨rfl, hx2, hk2⟩)⟩
      · have HJ := Lib.hid (And.intro hJ2 (And.intro hk2 hu2))
        clear hJ2 hk2 hu2
        gi_wp2
        refine ⟨⟨4, u2, rfl, by decide, HJ.out.1, fun b hb => ?_, HK.out.2.trans HJ.out.2.1 HK.out.1⟩, by decide⟩
        rcases HJ.out.2.2 b hb with h | h
        · exact HK.out.1 b h
        · have := HK.out.2.size; exact .inr (by omega)
      · have HJ := Lib.hid hx2
        clear hx2 hk2 hu2
        gi_wp2
        refine bodyPost_ret (results_none rfl _ _ _) rfl ?_
        exact ⟨⟨_, rfl⟩, .inr ⟨4, u2, by simp [numXs], HJ.out⟩⟩
    · have HK := Lib.hid hJk
      clear hu' hK hJk hF hk
      gi_wp2
      go_end0
      exact ⟨⟨_, rfl⟩, .inl ⟨u', HK.out⟩⟩
    · exact absurd hk (by omega)
end
end H
end Go.Proofs.YtfpefffgegphnaaDoor
