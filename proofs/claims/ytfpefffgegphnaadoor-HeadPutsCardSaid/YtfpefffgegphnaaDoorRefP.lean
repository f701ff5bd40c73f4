/- The reference's heads: Put, Get (made by gen_rput.py). -/
import Derived.Test.YtfpefffgegphnaaDoorRefD
import Derived.Test.YtfpefffgegphnaaDoorRefB
import Derived.Test.YtfpefffgegphnaaDoorGetH
namespace Go.Proofs.YtfpefffgegphnaaDoor
open Go.RowKit Go
namespace H
open HD
section
theorem mod_ok {x : Int} (h : x % 8 = 0) : x.tmod 8 = 0 := Int.tmod_eq_zero_of_dvd (Int.dvd_of_emod_eq_zero h)
theorem mod_no {x : Int} (h : ¬ x % 8 = 0) : ¬ x.tmod 8 = 0 := fun k => h (Int.emod_eq_zero_of_dvd (Int.dvd_of_tmod_eq_zero k))
set_option maxHeartbeats 1000000 in
theorem rput_nil  (m : MkR) (x : Int) (w : World) :
    Calls Tryd.prog 26 #[.pointer none, .int .i64 x, mkV m] w fun e w' => e = .returned (.int .i64 1) ∧ Ext w w' := by
  have E1 := ext1 w (.cells (mkC m) 23)
  have b1 := Blk.new w (mkC m) 23
  have HE := Lib.hid (And.intro E1 b1)
  clear E1 b1
  obtain ⟨p0, p1, p2, p3⟩ := cells_mk HE.out.2
  go_enter Tryd.func26, Tryd.ntmps26
  go_wp2
  go_ret
  exact ⟨rfl, HE.out.1⟩
set_option maxHeartbeats 1000000 in
theorem rput_no (p : Nat) (m : MkR) (x : Int) (w : World) (hr : rightM m = false) :
    Calls Tryd.prog 26 #[ptr p, .int .i64 x, mkV m] w fun e w' => e = .returned (.int .i64 60) ∧ Ext w w' := by
  have E1 := ext1 w (.cells (mkC m) 23)
  have b1 := Blk.new w (mkC m) 23
  have C := Lib.hid (fun W => rencode_no m hr W)
  clear hr
  have HE := Lib.hid (And.intro E1 b1)
  clear E1 b1
  obtain ⟨p0, p1, p2, p3⟩ := cells_mk HE.out.2
  go_enter Tryd.func26, Tryd.ntmps26
  go_wp2_with (go_at_call 11; refine (C.out _).mono ?_; rintro e w1 ⟨rfl, h1⟩; replace h1 := Ext.trans HE.out.1 h1)
  go_ret
  exact ⟨rfl, h1⟩
set_option maxHeartbeats 1000000 in
theorem rput_gr (p : Nat) (m : MkR) (x : Int) (w : World) (hr : rightM m = true) (hx : ¬ x % 8 = 0) :
    Calls Tryd.prog 26 #[ptr p, .int .i64 x, mkV m] w fun e w' => e = .returned (.int .i64 10) ∧ Ext w w' := by
  have E1 := ext1 w (.cells (mkC m) 23)
  have b1 := Blk.new w (mkC m) 23
  have C := Lib.hid (fun W => rencode_ok m hr W)
  have hx := mod_no hx
  clear hr
  have HE := Lib.hid (And.intro E1 b1)
  clear E1 b1
  obtain ⟨p0, p1, p2, p3⟩ := cells_mk HE.out.2
  go_enter Tryd.func26, Tryd.ntmps26
  go_wp2_with (go_at_call 11; refine (C.out _).mono ?_; rintro e w1 ⟨rfl, h1⟩; replace h1 := Ext.trans HE.out.1 h1)
  go_ret
  exact ⟨rfl, h1⟩
set_option maxHeartbeats 1000000 in
theorem rput_ok (p g : Nat) (L : List UInt8) (m : MkR) (x : Int) (w : World) (hr : rightM m = true) (hx : x % 8 = 0) (hA : Rr w p g L) :
    Calls Tryd.prog 26 #[ptr p, .int .i64 x, mkV m] w (RDoes g p w (.int .i64 (rdE L x 8)) (wrL L x (encS m))) := by
  have E1 := ext1 w (.cells (mkC m) 23)
  have b1 := Blk.new w (mkC m) 23
  have C := Lib.hid (fun W => rencode_ok m hr W)
  have hx := mod_ok hx
  have WR := Lib.hid (fun W (hW : Ext w W) => rwrite_any p g L x (encS m) W (hA.ext hW))
  rw [enc_len] at WR
  clear hr hA
  generalize wrL L x (encS m) = L2 at *
  generalize encS m = X at *
  have HE := Lib.hid (And.intro E1 b1)
  clear E1 b1
  obtain ⟨p0, p1, p2, p3⟩ := cells_mk HE.out.2
  go_enter Tryd.func26, Tryd.ntmps26
  go_wp2_with (first | (go_at_call 11; refine (C.out _).mono ?_; rintro e w1 ⟨rfl, h1⟩; replace h1 := Ext.trans HE.out.1 h1) | (go_at_call 24; refine (WR.out _ h1).mono ?_; rintro e w2 ⟨rfl, h2, h3⟩))
  go_ret
  exact ⟨rfl, (Chg.of_ext h1).trans h2, h3⟩
theorem rdoes_ext {f : FuncId} {args : Array Value} {w : World} {p g : Nat} {L : List UInt8} {v : Value} (hA : Rr w p g L) (h : Calls Tryd.prog f args w fun e w' => e = .returned v ∧ Ext w w') : Calls Tryd.prog f args w (RDoes g p w v L) :=
  h.mono fun _ _ ⟨he, hw⟩ => ⟨he, Chg.of_ext hw, hA.ext hw⟩
theorem rput_is (p g : Nat) (L : List UInt8) (m : MkR) (x : Int) (w : World) (hA : Rr w p g L) : Calls Tryd.prog 26 #[ptr p, .int .i64 x, mkV m] w (RDoes g p w (.int .i64 (putE L x m)) (putL L x m)) := by
  unfold putE putL
  rcases hr : rightM m with _ | _
  · rw [if_neg (by decide), if_neg (by simp)]
    exact rdoes_ext hA (rput_no p m x w hr)
  · by_cases hx : x % 8 = 0
    · rw [if_pos rfl, if_pos hx, if_pos ⟨rfl, hx⟩]
      exact rput_ok p g L m x w hr hx hA
    · rw [if_pos rfl, if_neg hx, if_neg (by simp [hx])]
      exact rdoes_ext hA (rput_gr p m x w hr hx)
set_option maxHeartbeats 1000000 in
theorem rget_nil  (x : Int) (w : World) :
    Calls Tryd.prog 25 #[.pointer none, .int .i64 x] w fun e w' => e = .returned (.tuple #[mkV zM, .int .i64 1]) ∧ Ext w w' := by
  have E1 := ext1 w (.cells (mkC zM) 23)
  have b1 := Blk.new w (mkC zM) 23
  have HE := Lib.hid (And.intro E1 b1)
  clear E1 b1
  go_enter Tryd.func25, Tryd.ntmps25
  go_wp2
  exact bodyPost_ret (v := .tuple #[mkV zM, .int .i64 1]) (by simp [results, Tryd.results25, go_sem, zM]) rfl ⟨rfl, HE.out.1⟩
set_option maxHeartbeats 1000000 in
theorem rread_same (p g : Nat) (L : List UInt8) (x y : Int) (w : World) (hA : Rr w p g L) :
    Calls Tryd.prog 44 #[ptr p, .int .i64 x, .int .i64 y] w fun e w' => e = .returned (.tuple #[.string ⟨(rdS L x y).toArray⟩, .int .i64 (rdE L x y)]) ∧ w = w' := by
  by_cases h : okA L x y
  · rw [rdS, rdE, if_pos h, if_pos h]
    have W := Lib.hid (within_ok p g L x y h w hA)
    unfold okA at h
    obtain ⟨x, rfl⟩ : ∃ k : Nat, x = k := ⟨x.toNat, by omega⟩
    obtain ⟨y, rfl⟩ : ∃ k : Nat, y = k := ⟨y.toNat, by omega⟩
    have c0 : w.cell? ⟨p, 0, none⟩ = some (.slice (some ⟨g, 0, none⟩) L.length L.length) := hA.p.cell 0
    have hl := hA.le
    have h1 : (x : Int) + y ≤ 131072 := by omega
    by_cases hq : L.length = x
    · obtain rfl : y = 0 := by omega
      have kc := fun q c => run_text_of (P := Tryd.prog) w 47 9 5 q c 0 x g L 5 Tryd.underlying47 Tryd.underlying5 Tryd.underlying9 hA.b (fun h => absurd h (Nat.lt_irrefl 0)) (by omega)
      clear hA
      go_enter Tryd.func44, Tryd.ntmps44
      go_wp2_with (go_at_call 43; refine W.out.mono ?_; rintro e w1 ⟨rfl, rfl⟩)
      go_ret2
      exact ⟨rfl, rfl⟩
    · have h2 : x + y - x = y := by omega
      have kc := run_text_of (P := Tryd.prog) w 47 9 5 (some ⟨g, x, none⟩) (L.length - x) y x g L 5 Tryd.underlying47 Tryd.underlying5 Tryd.underlying9 hA.b (fun _ => rfl) (by omega)
      clear hA
      go_enter Tryd.func44, Tryd.ntmps44
      go_wp2_with (go_at_call 43; refine W.out.mono ?_; rintro e w1 ⟨rfl, rfl⟩)
      go_ret2
      exact ⟨rfl, rfl⟩
  · rw [rdS, rdE, if_neg h, if_neg h]
    have W := Lib.hid (within_no p g L x y h w hA)
    clear hA h
    go_enter Tryd.func44, Tryd.ntmps44
    go_wp2_with (go_at_call 43; refine W.out.mono ?_; rintro e w1 ⟨rfl, rfl⟩)
    go_ret2
    exact ⟨rfl, rfl⟩
theorem rread_x (p g : Nat) (L : List UInt8) (x y : Int) (w : World) (hA : Rr w p g L) :
    Calls Tryd.prog 44 #[ptr p, .int .i64 x, .int .i64 y] w fun e w' => e = .returned (.tuple #[.string ⟨(rdS L x y).toArray⟩, .int .i64 (rdE L x y)]) ∧ Ext w w' :=
  (rread_same p g L x y w hA).mono fun _ _ ⟨he, hw⟩ => ⟨he, hw ▸ Ext.refl _⟩
set_option maxHeartbeats 1000000 in
theorem rget_out (p g : Nat) (L : List UInt8) (x : Int) (w : World) (hA : Rr w p g L) (hok : ¬ okA L x 8) :
    Calls Tryd.prog 25 #[ptr p, .int .i64 x] w fun e w' => e = .returned (.tuple #[mkV zM, .int .i64 10]) ∧ Ext w w' := by
  have E1 := ext1 w (.cells (mkC zM) 23)
  have b1 := Blk.new w (mkC zM) 23
  have RD := Lib.hid (fun W (hW : Ext w W) => rread_x p g L x 8 W (hA.ext hW))
  rw [rdS, rdE, if_neg hok, if_neg hok] at RD
  clear hA hok
  have HE := Lib.hid (And.intro E1 b1)
  clear E1 b1
  go_enter Tryd.func25, Tryd.ntmps25
  go_wp2_with (go_at_call 44; refine (RD.out _ HE.out.1).mono ?_; rintro e w1 ⟨rfl, h1⟩; have h2 := Ext.trans HE.out.1 h1; have BB := Lib.hid (And.intro (HE.out.2.ext h1) h2); obtain ⟨q0, q1, q2, q3⟩ := cells_mk BB.out.1; have f0 := BB.out.1.frozen 0; have f1 := BB.out.1.frozen 1; have f2 := BB.out.1.frozen 2; have f3 := BB.out.1.frozen 3)
  obtain ⟨s0, s1, s2, s3, hE⟩ := res_set4 (v0 := .int .i64 0) (v1 := .int .i64 0) (v2 := .int .i64 0) (v3 := .int .i64 0) BB.out.1 BB.out.2
  generalize ((((w1).setCell ⟨w.heap.size, 0, none⟩ (.int .i64 0)).setCell ⟨w.heap.size, 1, none⟩ (.int .i64 0)).setCell ⟨w.heap.size, 2, none⟩ (.int .i64 0)).setCell ⟨w.heap.size, 3, none⟩ (.int .i64 0) = W4 at *
  exact bodyPost_ret (v := .tuple #[mkV zM, .int .i64 10]) (by simp [results, Tryd.results25, go_sem, s0, s1, s2, s3, zM]) rfl ⟨rfl, hE⟩
set_option maxHeartbeats 1000000 in
theorem rget_gr (p g : Nat) (L : List UInt8) (x : Int) (w : World) (hA : Rr w p g L) (hok : okA L x 8) (hx : ¬ x % 8 = 0) :
    Calls Tryd.prog 25 #[ptr p, .int .i64 x] w fun e w' => e = .returned (.tuple #[mkV zM, .int .i64 10]) ∧ Ext w w' := by
  have E1 := ext1 w (.cells (mkC zM) 23)
  have b1 := Blk.new w (mkC zM) 23
  have RD := Lib.hid (fun W (hW : Ext w W) => rread_x p g L x 8 W (hA.ext hW))
  have hx := mod_no hx
  rw [rdE, if_pos hok] at RD
  clear hA hok
  generalize rdS L x 8 = X at *
  have HE := Lib.hid (And.intro E1 b1)
  clear E1 b1
  go_enter Tryd.func25, Tryd.ntmps25
  go_wp2_with (go_at_call 44; refine (RD.out _ HE.out.1).mono ?_; rintro e w1 ⟨rfl, h1⟩; have h2 := Ext.trans HE.out.1 h1; have BB := Lib.hid (And.intro (HE.out.2.ext h1) h2); obtain ⟨q0, q1, q2, q3⟩ := cells_mk BB.out.1; have f0 := BB.out.1.frozen 0; have f1 := BB.out.1.frozen 1; have f2 := BB.out.1.frozen 2; have f3 := BB.out.1.frozen 3)
  obtain ⟨s0, s1, s2, s3, hE⟩ := res_set4 (v0 := .int .i64 0) (v1 := .int .i64 0) (v2 := .int .i64 0) (v3 := .int .i64 0) BB.out.1 BB.out.2
  generalize ((((w1).setCell ⟨w.heap.size, 0, none⟩ (.int .i64 0)).setCell ⟨w.heap.size, 1, none⟩ (.int .i64 0)).setCell ⟨w.heap.size, 2, none⟩ (.int .i64 0)).setCell ⟨w.heap.size, 3, none⟩ (.int .i64 0) = W4 at *
  exact bodyPost_ret (v := .tuple #[mkV zM, .int .i64 10]) (by simp [results, Tryd.results25, go_sem, s0, s1, s2, s3, zM]) rfl ⟨rfl, hE⟩
set_option maxHeartbeats 1000000 in
theorem rget_ok (p g : Nat) (L : List UInt8) (x : Int) (w : World) (hA : Rr w p g L) (hok : okA L x 8) (hx : x % 8 = 0) :
    Calls Tryd.prog 25 #[ptr p, .int .i64 x] w fun e w' => e = .returned (.tuple #[mkV (decM (cut L x.toNat 8)), .int .i64 (decE (cut L x.toNat 8))]) ∧ Ext w w' := by
  have E1 := ext1 w (.cells (mkC zM) 23)
  have b1 := Blk.new w (mkC zM) 23
  have RD := Lib.hid (fun W (hW : Ext w W) => rread_x p g L x 8 W (hA.ext hW))
  have hx := mod_ok hx
  rw [rdS, rdE, if_pos hok, if_pos hok, show (8 : Int).toNat = 8 from rfl] at RD
  have DC := Lib.hid (fun W => rdecode_is (cut L x.toNat 8) W)
  clear hA hok
  generalize decM (cut L x.toNat 8) = M at *
  generalize decE (cut L x.toNat 8) = E at *
  generalize cut L x.toNat 8 = X at *
  have HE := Lib.hid (And.intro E1 b1)
  clear E1 b1
  go_enter Tryd.func25, Tryd.ntmps25
  go_wp2_with (first | (go_at_call 44; refine (RD.out _ HE.out.1).mono ?_; rintro e w1 ⟨rfl, h1⟩; have h2 := Ext.trans HE.out.1 h1; have BB := Lib.hid (And.intro (HE.out.2.ext h1) h2); obtain ⟨q0, q1, q2, q3⟩ := cells_mk BB.out.1; have f0 := BB.out.1.frozen 0; have f1 := BB.out.1.frozen 1; have f2 := BB.out.1.frozen 2; have f3 := BB.out.1.frozen 3) | (go_at_call 14; refine (DC.out _).mono ?_; rintro e w3 ⟨rfl, h3⟩; replace BB := Lib.hid (And.intro (BB.out.1.ext h3) (Ext.trans BB.out.2 h3)); clear q0 q1 q2 q3 f0 f1 f2 f3; obtain ⟨q0, q1, q2, q3⟩ := cells_mk BB.out.1; have f0 := BB.out.1.frozen 0; have f1 := BB.out.1.frozen 1; have f2 := BB.out.1.frozen 2; have f3 := BB.out.1.frozen 3))
  obtain ⟨s0, s1, s2, s3, hE⟩ := res_set4 (v0 := .int .i64 M.kind) (v1 := .int .i64 M.len) (v2 := .int .i64 M.cls) (v3 := .int .i64 M.ep) BB.out.1 BB.out.2
  generalize ((((w3).setCell ⟨w.heap.size, 0, none⟩ (.int .i64 M.kind)).setCell ⟨w.heap.size, 1, none⟩ (.int .i64 M.len)).setCell ⟨w.heap.size, 2, none⟩ (.int .i64 M.cls)).setCell ⟨w.heap.size, 3, none⟩ (.int .i64 M.ep) = W4 at *
  exact bodyPost_ret (v := .tuple #[mkV M, .int .i64 E]) (by simp [results, Tryd.results25, go_sem, s0, s1, s2, s3]) rfl ⟨rfl, hE⟩
theorem rget_is (p g : Nat) (L : List UInt8) (x : Int) (w : World) (hA : Rr w p g L) : Calls Tryd.prog 25 #[ptr p, .int .i64 x] w fun e w' => e = .returned (.tuple #[mkV (getM L x), .int .i64 (getE L x)]) ∧ Ext w w' := by
  unfold getM getE
  by_cases hok : okA L x 8
  · by_cases hx : x % 8 = 0
    · rw [if_pos ⟨hx, hok⟩, if_pos ⟨hx, hok⟩]
      exact rget_ok p g L x w hA hok hx
    · rw [if_neg (fun h => hx h.1), if_neg (fun h => hx h.1)]
      exact rget_gr p g L x w hA hok hx
  · rw [if_neg (fun h => hok h.2), if_neg (fun h => hok h.2)]
    exact rget_out p g L x w hA hok
end
end H
end Go.Proofs.YtfpefffgegphnaaDoor
