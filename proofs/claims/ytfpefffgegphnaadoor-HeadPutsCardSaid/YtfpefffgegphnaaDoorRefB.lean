/- The reference's arena: Zero, Write, Store, Load, Count. -/
import Derived.Test.YtfpefffgegphnaaDoorRefA
namespace Go.Proofs.YtfpefffgegphnaaDoor
open Go.RowKit Go
section
variable {a : Nat → Addr}
theorem rep_snoc (k : Nat) : List.replicate (k + 1) (0 : UInt8) = List.replicate k 0 ++ [0] := List.replicate_succ'
set_option maxHeartbeats 2000000 in
set_option maxRecDepth 100000 in
theorem rwrite_any (p g : Nat) (L : List UInt8) (x : Int) (S : List UInt8) (w : World) (hA : Rr w p g L) :
    Calls Tryd.prog 24 #[ptr p, .int .i64 x, .string ⟨S.toArray⟩] w (RDoes g p w (.int .i64 (rdE L x S.length)) (wrL L x S)) := by
  have hsz : (⟨S.toArray⟩ : ByteArray).size = S.length := by simp [ByteArray.size]
  by_cases h : okA L x S.length
  · rw [rdE, if_pos h, wrL, if_pos h]
    have W := Lib.hid (within_ok p g L x S.length h w hA)
    unfold okA at h
    obtain ⟨x, rfl⟩ : ∃ k : Nat, x = k := ⟨x.toNat, by omega⟩
    have hl := hA.le
    have HA := Lib.hid hA
    rw [Int.toNat_natCast]
    clear hA
    go_enter Tryd.func24, Tryd.ntmps24
    go_wp2_with (go_at_call 43; refine W.out.mono ?_; rintro e w1 ⟨rfl, rfl⟩)
    go_loopg [7] S.length (fun m i wr => ∃ k : Nat, k + m = S.length ∧ i = .int .i64 k ∧ Chg g w wr ∧ Rr wr p g (lay L x (S.take k)))
    case atStart => exact ⟨0, by omega, rfl, Chg.refl _ _, by rw [List.take_zero, lay_nil]; exact HA.out⟩
    case round =>
      obtain ⟨k, hk, rfl, hC, hR⟩ := hrel
      by_cases hlt : k < S.length
      · have htl : (S.take k).length = k := by simp; omega
        have hln := lay_len L x (S.take k) (by omega)
        have c0 : wr.cell? ⟨p, 0, none⟩ = some (.slice (some ⟨g, 0, none⟩) L.length L.length) := by have := hR.p.cell 0; rw [hln] at this; exact this
        have c1 := (hR.b.cell (x + k)).trans (bts_get' _ (x + k) (by omega))
        have f1 := hR.b.frozen (x + k)
        have hi : (k : Int) < S.length := by omega
        have hi1 : (x : Int) + k < L.length := by omega
        have hi3 : x + k < L.length := by omega
        have hi2 : (L.length : Int) ≤ 131072 := by omega
        have gz : ∀ h, ((⟨S.toArray⟩ : ByteArray)[k]'h) = S.getD k 0 := fun h => by
          show S.toArray[k] = _
          simp [List.getD, List.getElem?_eq_getElem hlt]
        obtain ⟨d, hd⟩ : ∃ d, S.getD k 0 = d := ⟨_, rfl⟩
        rw [hd] at gz
        have e1 : S.take (k + 1) = S.take k ++ [d] := by rw [List.take_add_one, ← hd, List.getD, List.getElem?_eq_getElem hlt]; rfl
        have e2 := lay_snoc L x (S.take k) d (by omega)
        rw [htl] at e2
        have hs := fun W (hW : Ext wr W) => (show Rr (W.setCell ⟨g, x + k, none⟩ (.int .u8 (d.toNat : Int))) p g (lay L x (S.take (k + 1))) from by
          have hs := (hR.ext hW).set (x + k) d
          rw [e2, ← e1] at hs
          exact hs)
        have hgl := hR.b.lt
        have HH := Lib.hid (And.intro hk (And.intro hC hs))
        have HF := Lib.hid (And.intro c1 (And.intro f1 hgl))
        clear hk hC hR hs hln hlt e1 e2 htl hd hgl
        go_wp2
        refine wp_region_tail 12 11 rfl (by kernel_rfl) (by kernel_rfl) (by kernel_rfl) ?_
        apply Exists.intro
        refine ⟨fun c => ?_, fun W hW => ?_⟩
        · have hx := fun (o : From c.w) p h => From.cell2 c.h o p h
          simp only [List.take_succ_cons, List.take_zero]
          repeat (go_big_quiet_step (fail))
          exact wpQuiet_nil rfl
        · simp only [List.drop_succ_cons, List.drop_zero]
          have c2 := (hW.cell (p := ⟨g, x + k, none⟩) HF.out.2.2).trans HF.out.1
          have f2 := (hW.frozen (p := ⟨g, x + k, none⟩) HF.out.2.2).trans HF.out.2.1
          have HW := Lib.hid hW
          clear hW c1 f1 c0
          go_wp2
          go_roundg (gk - 1)
          case measure => have := HH.out.1; omega
          case rel => exact ⟨k + 1, by have := HH.out.1; omega, by go_num, (HH.out.2.1.ext HW.out).setCell _ _, HH.out.2.2 _ HW.out⟩
      · obtain rfl : k = S.length := by omega
        rw [List.take_length] at hR
        have hi : ¬ ((S.length : Nat) : Int) < (S.length : Nat) := by omega
        have HH := Lib.hid (And.intro hC hR)
        clear hC hR hlt hk
        go_wp2
        go_ret
        exact ⟨rfl, HH.out⟩
  · rw [rdE, if_neg h, wrL, if_neg h]
    refine rdoes_same hA rfl ?_
    have W := Lib.hid (within_no p g L x S.length h w hA)
    clear hA h
    go_enter Tryd.func24, Tryd.ntmps24
    go_wp2_with (go_at_call 43; refine W.out.mono ?_; rintro e w1 ⟨rfl, rfl⟩)
    go_ret
    exact ⟨rfl, rfl⟩
end
end Go.Proofs.YtfpefffgegphnaaDoor
