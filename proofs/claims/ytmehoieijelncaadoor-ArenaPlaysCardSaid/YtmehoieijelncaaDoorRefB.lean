/- The reference's arena: Zero, Write, Store, Load, Count. -/
import Derived.Test.YtmehoieijelncaaDoorRefA
namespace Go.Proofs.YtmehoieijelncaaDoor
open Go.RowKit Go
section
variable {a : Nat → Addr}
theorem rep_snoc (k : Nat) : List.replicate (k + 1) (0 : UInt8) = List.replicate k 0 ++ [0] := List.replicate_succ'
set_option maxHeartbeats 1000000 in
set_option maxRecDepth 100000 in
theorem rzero_any (p g : Nat) (L : List UInt8) (x y : Int) (w : World) (hA : Rr w p g L) :
    Calls Tryd.prog 38 #[ptr p, .int .i64 x, .int .i64 y] w (RDoes g p w (.int .i64 (rdE L x y)) (zrL L x y)) := by
  by_cases h : okA L x y
  · rw [rdE, if_pos h, zrL, if_pos h]
    have W := Lib.hid (within_ok p g L x y h w hA)
    unfold okA at h
    obtain ⟨x, rfl⟩ : ∃ k : Nat, x = k := ⟨x.toNat, by omega⟩
    obtain ⟨y, rfl⟩ : ∃ k : Nat, y = k := ⟨y.toNat, by omega⟩
    have hl := hA.le
    have HA := Lib.hid hA
    rw [Int.toNat_natCast, Int.toNat_natCast]
    clear hA
    go_enter Tryd.func38, Tryd.ntmps38
    go_wp2_with (go_at_call 47; refine W.out.mono ?_; rintro e w1 ⟨rfl, rfl⟩)
    go_loopg [7] y (fun m i wr => ∃ k : Nat, k + m = y ∧ i = .int .i64 k ∧ Chg g w wr ∧ Rr wr p g (lay L x (List.replicate k 0)))
    case atStart => exact ⟨0, by omega, rfl, Chg.refl _ _, by rw [List.replicate_zero, lay_nil]; exact HA.out⟩
    case round =>
      obtain ⟨k, hk, rfl, hC, hR⟩ := hrel
      by_cases hlt : k < y
      · have hln := lay_len L x (List.replicate k 0) (by rw [List.length_replicate]; omega)
        have c0 : wr.cell? ⟨p, 0, none⟩ = some (.slice (some ⟨g, 0, none⟩) L.length L.length) := by have := hR.p.cell 0; rw [hln] at this; exact this
        have c1 := (hR.b.cell (x + k)).trans (bts_get' _ (x + k) (by omega))
        have f1 := hR.b.frozen (x + k)
        have hi : (k : Int) < y := by omega
        have hi1 : (x : Int) + k < L.length := by omega
        have hi3 : x + k < L.length := by omega
        have hi2 : (L.length : Int) ≤ 131072 := by omega
        have hs := hR.set (x + k) 0
        rw [show x + k = x + (List.replicate k (0 : UInt8)).length by rw [List.length_replicate], lay_snoc _ _ _ _ (by rw [List.length_replicate]; omega), ← rep_snoc, List.length_replicate] at hs
        have HH := Lib.hid (And.intro hk (And.intro hC hs))
        clear hk hC hR hs hln hlt
        go_wp2
        go_roundg (gk - 1)
        case measure => have := HH.out.1; omega
        case rel => exact ⟨k + 1, by have := HH.out.1; omega, by go_num, HH.out.2.1.setCell _ _, HH.out.2.2⟩
      · obtain rfl : k = y := by omega
        have hi : ¬ (k : Int) < k := by omega
        have HH := Lib.hid (And.intro hC hR)
        clear hC hR hlt hk
        go_wp2
        go_ret
        exact ⟨rfl, HH.out⟩
  · rw [rdE, if_neg h, zrL, if_neg h]
    refine rdoes_same hA rfl ?_
    have W := Lib.hid (within_no p g L x y h w hA)
    clear hA h
    go_enter Tryd.func38, Tryd.ntmps38
    go_wp2_with (go_at_call 47; refine W.out.mono ?_; rintro e w1 ⟨rfl, rfl⟩)
    go_ret
    exact ⟨rfl, rfl⟩

set_option maxHeartbeats 2000000 in
set_option maxRecDepth 100000 in
theorem rwrite_any (p g : Nat) (L : List UInt8) (x : Int) (S : List UInt8) (w : World) (hA : Rr w p g L) :
    Calls Tryd.prog 37 #[ptr p, .int .i64 x, .string ⟨S.toArray⟩] w (RDoes g p w (.int .i64 (rdE L x S.length)) (wrL L x S)) := by
  have hsz : (⟨S.toArray⟩ : ByteArray).size = S.length := by simp [ByteArray.size]
  by_cases h : okA L x S.length
  · rw [rdE, if_pos h, wrL, if_pos h]
    have W := Lib.hid (within_ok p g L x S.length h w hA)
    unfold okA at h
    obtain ⟨x, rfl⟩ : ∃ k : Nat, x = k := ⟨x.toNat, by omega⟩
    have hl := hA.le
    have HA := Lib.hid hA
    rw [Int.toNat_natCast]
    clear hA
    go_enter Tryd.func37, Tryd.ntmps37
    go_wp2_with (go_at_call 47; refine W.out.mono ?_; rintro e w1 ⟨rfl, rfl⟩)
    go_loopg [7] S.length (fun m i wr => ∃ k : Nat, k + m = S.length ∧ i = .int .i64 k ∧ Chg g w wr ∧ Rr wr p g (lay L x (S.take k)))
    case atStart => exact ⟨0, by omega, rfl, Chg.refl _ _, by rw [List.take_zero, lay_nil]; exact HA.out⟩
    case round =>
      obtain ⟨k, hk, rfl, hC, hR⟩ := hrel
      by_cases hlt : k < S.length
      · have htl : (S.take k).length = k := by simp; omega
        have hln := lay_len L x (S.take k) (by omega)
        have c0 : wr.cell? ⟨p, 0, none⟩ = some (.slice (some ⟨g, 0, none⟩) L.length L.length) := by have := hR.p.cell 0; rw [hln] at this; exact this
        have c1 := (hR.b.cell (x + k)).trans (bts_get' _ (x + k) (by omega))
        have f1 := hR.b.frozen (x + k)
        have hi : (k : Int) < S.length := by omega
        have hi1 : (x : Int) + k < L.length := by omega
        have hi3 : x + k < L.length := by omega
        have hi2 : (L.length : Int) ≤ 131072 := by omega
        have gz : ∀ h, ((⟨S.toArray⟩ : ByteArray)[k]'h) = S.getD k 0 := fun h => by
          show S.toArray[k] = _
          simp [List.getD, List.getElem?_eq_getElem hlt]
        obtain ⟨d, hd⟩ : ∃ d, S.getD k 0 = d := ⟨_, rfl⟩
        rw [hd] at gz
        have e1 : S.take (k + 1) = S.take k ++ [d] := by rw [List.take_add_one, ← hd, List.getD, List.getElem?_eq_getElem hlt]; rfl
        have e2 := lay_snoc L x (S.take k) d (by omega)
        rw [htl] at e2
        have hs := fun W (hW : Ext wr W) => (show Rr (W.setCell ⟨g, x + k, none⟩ (.int .u8 (d.toNat : Int))) p g (lay L x (S.take (k + 1))) from by
          have hs := (hR.ext hW).set (x + k) d
          rw [e2, ← e1] at hs
          exact hs)
        have hgl := hR.b.lt
        have HH := Lib.hid (And.intro hk (And.intro hC hs))
        have HF := Lib.hid (And.intro c1 (And.intro f1 hgl))
        clear hk hC hR hs hln hlt e1 e2 htl hd hgl
        go_wp2
        refine wp_region_tail 12 11 rfl (by kernel_rfl) (by kernel_rfl) (by kernel_rfl) ?_
        apply Exists.intro
        refine ⟨fun c => ?_, fun W hW => ?_⟩
        · have hx := fun (o : From c.w) p h => From.cell2 c.h o p h
          simp only [List.take_succ_cons, List.take_zero]
          repeat (go_big_quiet_step (fail))
          exact wpQuiet_nil rfl
        · simp only [List.drop_succ_cons, List.drop_zero]
          have c2 := (hW.cell (p := ⟨g, x + k, none⟩) HF.out.2.2).trans HF.out.1
          have f2 := (hW.frozen (p := ⟨g, x + k, none⟩) HF.out.2.2).trans HF.out.2.1
          have HW := Lib.hid hW
          clear hW c1 f1 c0
          go_wp2
          go_roundg (gk - 1)
          case measure => have := HH.out.1; omega
          case rel => exact ⟨k + 1, by have := HH.out.1; omega, by go_num, (HH.out.2.1.ext HW.out).setCell _ _, HH.out.2.2 _ HW.out⟩
      · obtain rfl : k = S.length := by omega
        rw [List.take_length] at hR
        have hi : ¬ ((S.length : Nat) : Int) < (S.length : Nat) := by omega
        have HH := Lib.hid (And.intro hC hR)
        clear hC hR hlt hk
        go_wp2
        go_ret
        exact ⟨rfl, HH.out⟩
  · rw [rdE, if_neg h, wrL, if_neg h]
    refine rdoes_same hA rfl ?_
    have W := Lib.hid (within_no p g L x S.length h w hA)
    clear hA h
    go_enter Tryd.func37, Tryd.ntmps37
    go_wp2_with (go_at_call 47; refine W.out.mono ?_; rintro e w1 ⟨rfl, rfl⟩)
    go_ret
    exact ⟨rfl, rfl⟩

set_option maxHeartbeats 2000000 in
set_option maxRecDepth 100000 in
theorem rcount_any (p g : Nat) (L : List UInt8) (w : World) (hA : Rr w p g L) :
    Calls Tryd.prog 20 #[ptr p] w fun e w' => e = .returned (.int .i64 (nz L : Nat)) ∧ w = w' := by
  have c0 : w.cell? ⟨p, 0, none⟩ = some (.slice (some ⟨g, 0, none⟩) L.length L.length) := hA.p.cell 0
  have hl := hA.le
  have HA := Lib.hid hA
  clear hA
  go_enter Tryd.func20, Tryd.ntmps20
  go_wp2
  go_loopg [3, 4] L.length (fun m t i wr => ∃ k : Nat, k + m = L.length ∧ i = .int .i64 k ∧ t = .int .i64 (nz (L.take k) : Nat) ∧ w = wr)
  case atStart => exact ⟨0, by omega, rfl, rfl, rfl⟩
  case round =>
    obtain ⟨k, hk9, rfl, rfl, rfl⟩ := hrel
    by_cases hlt : k < L.length
    · have hst := nz_step L k hlt
      have hle := nz_le (L.take k)
      have hle2 : (L.take k).length ≤ 131072 := by simp; omega
      have hi : (k : Int) < L.length := by omega
      have hi2 : (k : Int) + 1 ≤ 131072 := by omega
      have hi3 : ((nz (L.take k) : Nat) : Int) + 1 ≤ 131073 := by omega
      have c1 := (HA.out.b.cell k).trans (bts_get' L k hlt)
      have hnd : ((L.getD k 0).toNat : Int) = 0 ↔ L.getD k 0 = 0 := by
        constructor
        · intro h; exact UInt8.toNat_inj.1 (by simpa using h)
        · intro h; rw [h]; rfl
      have HH := Lib.hid (And.intro hk9 hst)
      generalize hT : nz (L.take k) = T at *
      generalize hD : L.getD k 0 = D at *
      clear hst hle hle2 hk9
      by_cases hd : (D.toNat : Int) = 0
      · have hL0 := Lib.hid (hnd.1 hd)
        have hd' : ((D.toNat : Int) != 0) = false := by simp [hd]
        rw [hd] at c1
        clear hnd
        go_wp2
        go_roundg (gk - 1)
        case measure => have := HH.out.1; omega
        case rel => exact ⟨k + 1, by have := HH.out.1; omega, by go_num, by rw [HH.out.2, if_pos hL0.out, Nat.add_zero], rfl⟩
      · have hL0 := Lib.hid (fun h => hd (hnd.2 h))
        have hd' : ((D.toNat : Int) != 0) = true := by simpa using hd
        clear hnd hd
        go_wp2
        go_roundg (gk - 1)
        case measure => have := HH.out.1; omega
        case rel => exact ⟨k + 1, by have := HH.out.1; omega, by go_num, by rw [HH.out.2, if_neg hL0.out]; go_num, rfl⟩
    · obtain rfl : k = L.length := by omega
      have hi : ¬ ((L.length : Nat) : Int) < (L.length : Nat) := by omega
      rw [List.take_length] at *
      clear hlt hk9
      go_wp2
      go_ret
      exact ⟨rfl, rfl⟩

theorem wb_take (v k : Nat) (h : k < 4) : (wb v).take (k + 1) = (wb v).take k ++ [UInt8.ofNat (v / 256 ^ k)] := by
  rcases k with _ | _ | _ | _ | k
  · simp [wb]
  · simp [wb]
  · simp [wb]
  · simp [wb]
  · omega
set_option maxHeartbeats 2000000 in
set_option maxRecDepth 100000 in
theorem rstore_any (p g : Nat) (L : List UInt8) (x : Int) (v : Nat) (hv : v < 4294967296) (w : World) (hA : Rr w p g L) :
    Calls Tryd.prog 33 #[ptr p, .int .i64 x, .int .u32 (v : Nat)] w (RDoes g p w (.int .i64 (ldE L x)) (stL L x v)) := by
  by_cases h : okA L x 4
  · by_cases hm : x % 4 = 0
    · rw [ldE, if_pos ⟨h, hm⟩, stL, if_pos ⟨h, hm⟩]
      have W := Lib.hid (within_ok p g L x 4 h w hA)
      unfold okA at h
      obtain ⟨x, rfl⟩ : ∃ k : Nat, x = k := ⟨x.toNat, by omega⟩
      have hm2 : ((x : Int) % 4 != 0) = false := by simp [hm]
      have hm3 : ((x : Int).tmod 4 != 0) = false := by rw [(tmod4 _).2 hm]; rfl
      have hl := hA.le
      have HA := Lib.hid hA
      rw [Int.toNat_natCast]
      clear hA
      go_enter Tryd.func33, Tryd.ntmps33
      go_wp2_with (go_at_call 47; refine W.out.mono ?_; rintro e w1 ⟨rfl, rfl⟩)
      go_loopg [2, 7] 4 (fun m u i wr => ∃ k : Nat, k + m = 4 ∧ i = .int .i64 k ∧ u = .int .u32 ((v / 256 ^ k : Nat) : Int) ∧ Chg g w wr ∧ Rr wr p g (lay L x ((wb v).take k)))
      case atStart => exact ⟨0, by omega, rfl, by rw [Nat.pow_zero, Nat.div_one], Chg.refl _ _, by rw [List.take_zero, lay_nil]; exact HA.out⟩
      case round =>
        obtain ⟨k, hk, rfl, rfl, hC, hR⟩ := hrel
        by_cases hlt : k < 4
        · have htl : ((wb v).take k).length = k := by rw [List.length_take]; show min k 4 = k; omega
          have hln := lay_len L x ((wb v).take k) (by omega)
          have c0 : wr.cell? ⟨p, 0, none⟩ = some (.slice (some ⟨g, 0, none⟩) L.length L.length) := by have := hR.p.cell 0; rw [hln] at this; exact this
          have c1 := (hR.b.cell (x + k)).trans (bts_get' _ (x + k) (by omega))
          have f1 := hR.b.frozen (x + k)
          have hi : (k : Int) < 4 := by omega
          have hi1 : (x : Int) + k < L.length := by omega
          have hi3 : x + k < L.length := by omega
          have hi2 : (L.length : Int) ≤ 131072 := by omega
          have e2 := lay_snoc L x ((wb v).take k) (UInt8.ofNat (v / 256 ^ k)) (by omega)
          rw [htl, ← wb_take v k hlt] at e2
          have hs := hR.set (x + k) (UInt8.ofNat (v / 256 ^ k))
          rw [e2, UInt8.toNat_ofNat'] at hs
          have hvk : v / 256 ^ k < 4294967296 := Nat.lt_of_le_of_lt (Nat.div_le_self _ _) hv
          have hnx : v / 256 ^ (k + 1) = v / 256 ^ k / 256 := by rw [Nat.pow_succ, Nat.div_div_eq_div_mul]
          have HH := Lib.hid (And.intro hk (And.intro hC (And.intro hs hnx)))
          generalize v / 256 ^ k = u at *
          have hu : (u : Int) < 4294967296 := by omega
          have hu0 : (0 : Int) ≤ u := by omega
          clear hk hC hR hs hln hlt e2 htl hnx
          go_wp2
          go_roundg (gk - 1)
          case measure => have := HH.out.1; omega
          case rel => exact ⟨k + 1, by have := HH.out.1; omega, by go_num, by rw [HH.out.2.2.2]; rfl, HH.out.2.1.setCell _ _, HH.out.2.2.1⟩
        · obtain rfl : k = 4 := by omega
          have HH := Lib.hid (And.intro hC hR)
          clear hC hR hlt hk
          go_wp2
          go_ret
          exact ⟨rfl, HH.out.1, by have := HH.out.2; rwa [List.take_of_length_le (show (wb v).length ≤ 4 from Nat.le_refl 4)] at this⟩
    · rw [ldE, if_neg (fun k => hm k.2), stL, if_neg (fun k => hm k.2)]
      refine rdoes_same hA rfl ?_
      have hm3 : (x.tmod 4 != 0) = true := by rw [bne_iff_ne]; exact fun h => hm ((tmod4 x).1 h)
      have hm2 : (x % 4 != 0) = true := by rw [bne_iff_ne]; exact hm
      clear hA h
      go_enter Tryd.func33, Tryd.ntmps33
      go_wp2
      go_ret
      exact ⟨rfl, rfl⟩
  · rw [ldE, if_neg (fun k => h k.1), stL, if_neg (fun k => h k.1)]
    refine rdoes_same hA rfl ?_
    have W := Lib.hid (within_no p g L x 4 h w hA)
    clear hA h
    by_cases hm : x.tmod 4 = 0
    · have hm3 : (x.tmod 4 != 0) = false := by rw [hm]; rfl
      go_enter Tryd.func33, Tryd.ntmps33
      go_wp2_with (go_at_call 47; refine W.out.mono ?_; rintro e w1 ⟨rfl, rfl⟩)
      go_ret
      exact ⟨rfl, rfl⟩
    · have hm3 : (x.tmod 4 != 0) = true := by rw [bne_iff_ne]; exact hm
      go_enter Tryd.func33, Tryd.ntmps33
      go_wp2
      go_ret
      exact ⟨rfl, rfl⟩
end
end Go.Proofs.YtmehoieijelncaaDoor
