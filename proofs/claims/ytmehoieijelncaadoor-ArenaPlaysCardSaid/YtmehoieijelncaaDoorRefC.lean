/- The reference's arena: Load. -/
import Derived.Test.YtmehoieijelncaaDoorRefB
namespace Go.Proofs.YtmehoieijelncaaDoor
open Go.RowKit Go
section
variable {a : Nat → Addr}
set_option maxHeartbeats 2000000 in
set_option maxRecDepth 100000 in
theorem rload_any (p g : Nat) (L : List UInt8) (x : Int) (w : World) (hA : Rr w p g L) :
    Calls Tryd.prog 32 #[ptr p, .int .i64 x] w (RDoes g p w (.tuple #[.int .u32 (ldV L x : Nat), .int .i64 (ldE L x)]) L) := by
  refine rdoes_same hA rfl ?_
  by_cases h : okA L x 4
  · by_cases hm : x % 4 = 0
    · rw [ldE, if_pos ⟨h, hm⟩, ldV, if_pos ⟨h, hm⟩]
      have W := Lib.hid (within_ok p g L x 4 h w hA)
      unfold okA at h
      obtain ⟨x, rfl⟩ : ∃ k : Nat, x = k := ⟨x.toNat, by omega⟩
      have hm2 : ((x : Int) % 4 != 0) = false := by simp [hm]
      have hm3 : ((x : Int).tmod 4 != 0) = false := by rw [(tmod4 _).2 hm]; rfl
      have hl := hA.le
      rw [Int.toNat_natCast]
      have c0 : w.cell? ⟨p, 0, none⟩ = some (.slice (some ⟨g, 0, none⟩) L.length L.length) := hA.p.cell 0
      have b0 := (hA.b.cell (x + 0)).trans (bts_get' L (x + 0) (by omega))
      have b1 := (hA.b.cell (x + 1)).trans (bts_get' L (x + 1) (by omega))
      have b2 := (hA.b.cell (x + 2)).trans (bts_get' L (x + 2) (by omega))
      have b3 := (hA.b.cell (x + 3)).trans (bts_get' L (x + 3) (by omega))
      have g0 := getD_lt L (x + 0)
      have g1 := getD_lt L (x + 1)
      have g2 := getD_lt L (x + 2)
      have g3 := getD_lt L (x + 3)
      have hv : wv L x 4 = (L.getD (x + 0) 0).toNat + 256 * (L.getD (x + 1) 0).toNat + 65536 * (L.getD (x + 2) 0).toNat + 16777216 * (L.getD (x + 3) 0).toNat := by
        simp only [wv, Nat.reducePow]; omega
      generalize (L.getD (x + 0) 0).toNat = d0 at *
      generalize (L.getD (x + 1) 0).toNat = d1 at *
      generalize (L.getD (x + 2) 0).toNat = d2 at *
      generalize (L.getD (x + 3) 0).toNat = d3 at *
      rw [Nat.add_zero] at b0
      have z0 : (0 : Int) ≤ d0 := by omega
      have z1 : (0 : Int) ≤ d1 := by omega
      have z2 : (0 : Int) ≤ d2 := by omega
      have z3 : (0 : Int) ≤ d3 := by omega
      have hi1 : (x : Int) + 3 < L.length := by omega
      have hi2 : (L.length : Int) ≤ 131072 := by omega
      have hj : x + 3 < L.length := by omega
      have hj0 : x < L.length := by omega
      have hj1 : x + 1 < L.length := by omega
      have hj2 : x + 2 < L.length := by omega
      have HV := Lib.hid hv
      clear hA hv
      go_enter Tryd.func32, Tryd.ntmps32
      go_wp2_with (go_at_call 47; refine W.out.mono ?_; rintro e w1 ⟨rfl, rfl⟩)
      refine wp_loop_rounds 5 ?_
      rw [rounds_succ]
      go_wp2
      rw [rounds_succ]
      go_wp2
      rw [rounds_succ]
      go_wp2
      rw [rounds_succ]
      go_wp2
      rw [rounds_succ]
      go_wp2
      go_ret2
      exact ⟨ret_val (show Value.tuple #[.int .u32 (256 * (256 * (256 * (d3 : Int) + d2) + d1) + d0), .int .i64 0] = .tuple #[.int .u32 ((wv L x 4 : Nat) : Int), .int .i64 0] by rw [show 256 * (256 * (256 * (d3 : Int) + d2) + d1) + d0 = ((wv L x 4 : Nat) : Int) by rw [HV.out]; omega]), rfl⟩
    · rw [ldE, if_neg (fun k => hm k.2), ldV, if_neg (fun k => hm k.2)]
      have hm3 : (x.tmod 4 != 0) = true := by rw [bne_iff_ne]; exact fun h => hm ((tmod4 x).1 h)
      have hm2 : (x % 4 != 0) = true := by rw [bne_iff_ne]; exact hm
      clear hA h
      go_enter Tryd.func32, Tryd.ntmps32
      go_wp2
      go_ret2
      exact ⟨rfl, rfl⟩
  · rw [ldE, if_neg (fun k => h k.1), ldV, if_neg (fun k => h k.1)]
    have W := Lib.hid (within_no p g L x 4 h w hA)
    clear hA h
    by_cases hm : x.tmod 4 = 0
    · have hm3 : (x.tmod 4 != 0) = false := by rw [hm]; rfl
      go_enter Tryd.func32, Tryd.ntmps32
      go_wp2_with (go_at_call 47; refine W.out.mono ?_; rintro e w1 ⟨rfl, rfl⟩)
      go_ret2
      exact ⟨rfl, rfl⟩
    · have hm3 : (x.tmod 4 != 0) = true := by rw [bne_iff_ne]; exact hm
      go_enter Tryd.func32, Tryd.ntmps32
      go_wp2
      go_ret2
      exact ⟨rfl, rfl⟩
end
end Go.Proofs.YtmehoieijelncaaDoor
