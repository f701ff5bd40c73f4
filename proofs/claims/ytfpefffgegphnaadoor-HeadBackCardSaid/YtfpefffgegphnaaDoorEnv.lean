/- arena: what the package variables hold, an arena in memory; small calls; told. -/
import Derived.Test.YtfpefffgegphnaaDoorErr
import Derived.Test.YtfpefffgegphnaaDoorDraw
import Derived.Test.YtfpefffgegphnaaDoorBy
import Derived.Test.YtfpefffgegphnaaDoorJoin
namespace Go.Proofs.YtfpefffgegphnaaDoor
open Go.RowKit Go

abbrev esA : List Nat := [4, 3, 5]
structure G (a : Nat → Addr) (w : World) : Prop where
  e : Errs esA a w
theorem G.ext {a : Nat → Addr} {w w' : World} (h : G a w) (k : Ext w w') : G a w' := ⟨h.e.ext k⟩
abbrev JG (w : World) : Prop := ∃ a0 a2 a3, J.G a0 a2 a3 w
def num : Nat → Int
  | 0 => 0
  | 1 => 1
  | 2 => 2
  | _ => 10
/-- At ⟨p, 0⟩ lies an arena whose bytes are L, in the block g. -/
structure Ar (w : World) (p g : Nat) (L : List UInt8) : Prop where
  p : Blk w p #[.slice (some ⟨g, 0, none⟩) L.length L.length] 68
  b : Blk w g (bts L) 5
  n0 : 0 < L.length
  le : L.length ≤ 131072
theorem Ar.ne {w : World} {p g : Nat} {L : List UInt8} (h : Ar w p g L) : p ≠ g := by
  rintro rfl
  have := (show w.heap[p]? = _ from h.p).symm.trans h.b
  simp at this
theorem Ar.ext {w w' : World} {p g : Nat} {L : List UInt8} (h : Ar w p g L) (k : Ext w w') : Ar w' p g L := ⟨h.p.ext k, h.b.ext k, h.n0, h.le⟩
/-- .. its bytes turned. -/
theorem Ar.chg {w w' : World} {p g : Nat} {L L' : List UInt8} (h : Ar w p g L) (k : Chg g w w') (hb : Blk w' g (bts L') 5) (hl : L'.length = L.length) : Ar w' p g L' :=
  ⟨by rw [hl]; exact h.p.chg k h.ne, hb, by rw [hl]; exact h.n0, by rw [hl]; exact h.le⟩
/-- .. another one's turned. -/
theorem Ar.other {w w' : World} {p g q : Nat} {L : List UInt8} (h : Ar w p g L) (k : Chg q w w') (h1 : p ≠ q) (h2 : g ≠ q) : Ar w' p g L := ⟨h.p.chg k h1, h.b.chg k h2, h.n0, h.le⟩
abbrev ptr (p : Nat) : Value := .pointer (some ⟨p, 0, none⟩)
section
variable {a : Nat → Addr}

theorem unless_any (b : Bool) (v : Value) (w : World) :
    Calls Tryd.prog 52 #[.bool b, v] w fun e w' => e = .returned (unlessV b v) ∧ w = w' := by
  cases b
  · go_enter Tryd.func52, Tryd.ntmps52
    go_wp2
    go_ret
    exact ⟨rfl, rfl⟩
  · go_enter Tryd.func52, Tryd.ntmps52
    go_wp2
    go_ret
    exact ⟨rfl, rfl⟩

set_option maxHeartbeats 2000000 in
theorem told_any (ks : List Nat) (b : Nat) (cap : Nat) (w : World) (hG : G a w) (hm : ks.length ≤ 100) (h3 : ∀ k ∈ ks, k ≤ 3)
    (hc : ∀ i, i < ks.length → w.cell? ⟨b, i, none⟩ = some (errV a (ks.getD i 0))) :
    Calls Tryd.prog 37 #[.slice (some ⟨b, 0, none⟩) ks.length cap] w fun e w' => e = .returned (.int .i64 (num (firstK ks))) ∧ w = w' := by
  have H := Lib.hid hG
  clear hG
  have z0 : w.cell? ⟨4, 0, none⟩ = some (.iface 124 (.pointer (some (a 0)))) := H.out.e.c 0 (by decide)
  have z1 : w.cell? ⟨3, 0, none⟩ = some (.iface 124 (.pointer (some (a 1)))) := H.out.e.c 1 (by decide)
  have z2 : w.cell? ⟨5, 0, none⟩ = some (.iface 124 (.pointer (some (a 2)))) := H.out.e.c 2 (by decide)
  have HC := Lib.hid hc
  have H3 := Lib.hid h3
  clear hc h3
  go_enter Tryd.func37, Tryd.ntmps37
  go_wp2
  go_loopg [7] ks.length (fun m i wr => ∃ k : Nat, k + m = ks.length ∧ i = .int .i64 k ∧ firstK ks = firstK (ks.drop k) ∧ w = wr)
  case atStart => exact ⟨0, by omega, rfl, rfl, rfl⟩
  case round =>
    obtain ⟨k, hk, rfl, hf, rfl⟩ := hrel
    by_cases hlt : k < ks.length
    · have hd : ks.drop k = ks.getD k 0 :: ks.drop (k + 1) := by
        rw [List.drop_eq_getElem_cons hlt]; simp [List.getD, hlt]
      have c : w.cell? ⟨b, k, none⟩ = some (errV a (ks.getD k 0)) := HC.out k hlt
      have hq3 : ks.getD k 0 ≤ 3 := H3.out _ (by rw [List.getD_eq_getElem?_getD, List.getElem?_eq_getElem hlt]; exact List.getElem_mem hlt)
      rw [hd] at hf
      generalize ks.getD k 0 = q at *
      have HF := Lib.hid hf
      have I0 := Lib.hid (is_any (es := esA) (a := a) q 0 hq3 (by decide) w H.out.e)
      have I1 := Lib.hid (is_any (es := esA) (a := a) q 1 hq3 (by decide) w H.out.e)
      have I2 := Lib.hid (is_any (es := esA) (a := a) q 2 hq3 (by decide) w H.out.e)
      have h5 : (k : Int) < ks.length := by omega
      clear hf hd
      match q, hq3 with
      | 0, _ =>
        go_wp2_with (go_at_call 46; first | ((with_reducible refine I0.out.mono ?_); rintro e w1 ⟨rfl, rfl⟩) | ((with_reducible refine I1.out.mono ?_); rintro e w1 ⟨rfl, rfl⟩) | ((with_reducible refine I2.out.mono ?_); rintro e w1 ⟨rfl, rfl⟩))
        go_roundg (gk - 1)
        case measure => omega
        case rel => exact ⟨k + 1, by omega, by go_num, HF.out, rfl⟩
      | 1, _ =>
        go_wp2_with (go_at_call 46; first | ((with_reducible refine I0.out.mono ?_); rintro e w1 ⟨rfl, rfl⟩) | ((with_reducible refine I1.out.mono ?_); rintro e w1 ⟨rfl, rfl⟩) | ((with_reducible refine I2.out.mono ?_); rintro e w1 ⟨rfl, rfl⟩))
        go_ret
        exact ⟨ret_int (by rw [HF.out]; rfl), rfl⟩
      | 2, _ =>
        go_wp2_with (go_at_call 46; first | ((with_reducible refine I0.out.mono ?_); rintro e w1 ⟨rfl, rfl⟩) | ((with_reducible refine I1.out.mono ?_); rintro e w1 ⟨rfl, rfl⟩) | ((with_reducible refine I2.out.mono ?_); rintro e w1 ⟨rfl, rfl⟩))
        go_ret
        exact ⟨ret_int (by rw [HF.out]; rfl), rfl⟩
      | 3, _ =>
        go_wp2_with (go_at_call 46; first | ((with_reducible refine I0.out.mono ?_); rintro e w1 ⟨rfl, rfl⟩) | ((with_reducible refine I1.out.mono ?_); rintro e w1 ⟨rfl, rfl⟩) | ((with_reducible refine I2.out.mono ?_); rintro e w1 ⟨rfl, rfl⟩))
        go_ret
        exact ⟨ret_int (by rw [HF.out]; rfl), rfl⟩
    · have hd : ks.drop k = [] := List.drop_eq_nil_of_le (by omega)
      have hz : firstK ks = 0 := by rw [hf, hd]; rfl
      have hZ := Lib.hid hz
      have h5 : ¬ (k : Int) < ks.length := by omega
      clear hz hd hf
      go_wp2
      go_ret
      exact ⟨ret_int (by rw [hZ.out]; rfl), rfl⟩


theorem noArena_nil (w : World) (hG : G a w) :
    Calls Tryd.prog 40 #[.pointer none] w fun e w' => e = .returned (errV a 1) ∧ Ext w w' := by
  have z0 : w.cell? ⟨4, 0, none⟩ = some (.iface 124 (.pointer (some (a 0)))) := hG.e.c 0 (by decide)
  have hx := fun (o : From w) p h => From.cell o p h
  clear hG
  go_enter Tryd.func40, Tryd.ntmps40
  go_wp2
  refine wp_region_on (by kernel_rfl) (by kernel_rfl) ?_
  repeat (go_big_quiet_step ((first | (go_at_call 52; exact on_same (fun W => unless_any _ _ W) _))))
  refine wpQuiet_nil ?_
  intro W hW
  go_wp2
  go_ret
  exact ⟨rfl, hW⟩

theorem noArena_ok (p g : Nat) (L : List UInt8) (w : World) (hG : G a w) (h : Ar w p g L) :
    Calls Tryd.prog 40 #[ptr p] w fun e w' => e = .returned (errV a 0) ∧ Ext w w' := by
  have z0 : w.cell? ⟨4, 0, none⟩ = some (.iface 124 (.pointer (some (a 0)))) := hG.e.c 0 (by decide)
  have c0 : w.cell? ⟨p, 0, none⟩ = some (.slice (some ⟨g, 0, none⟩) L.length L.length) := h.p.cell 0
  have hx := fun (o : From w) p h => From.cell o p h
  have hn := Lib.hid (show decide (0 < L.length) = true from decide_eq_true h.n0)
  clear hG h
  go_enter Tryd.func40, Tryd.ntmps40
  go_wp2
  refine wp_region_on (by kernel_rfl) (by kernel_rfl) ?_
  repeat (go_big_quiet_step ((first | (go_at_call 52; exact on_same (fun W => unless_any _ _ W) _))))
  refine wpQuiet_nil ?_
  intro W hW
  go_wp2
  go_ret
  exact ⟨ret_val (by show unlessV (decide (0 < L.length)) _ = _; rw [hn.out]; rfl), hW⟩
end
end Go.Proofs.YtfpefffgegphnaaDoor
