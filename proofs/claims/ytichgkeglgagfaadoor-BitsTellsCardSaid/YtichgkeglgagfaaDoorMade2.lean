/- bits: joined, made. -/
import Derived.Test.YtichgkeglgagfaaDoorMade
namespace Go.Proofs.YtichgkeglgagfaaDoor
open Go.RowKit Go
section
set_option maxRecDepth 100000 in
set_option maxHeartbeats 1000000 in
theorem joined1_any (A : Option Addr) (n c : Nat) (vs : List Nat) (w0 : World) (hv : Bt w0 A n vs) (b : Nat) (hb0 : b < w0.heap.size) (c1 : w0.cell? ⟨b, 1, none⟩ = some (.slice A n c))
    (ws : List Nat) (hn : ws.length = n) (hw : W32 ws) (w : World) (hE0 : Ext w0 w) (B : Nat) (hB0 : w0.heap.size ≤ B) (hB : Blk w B (encW ws) 47) :
    Calls Tryd.prog 61 #[.slice (some ⟨B, 0, none⟩) n n, .pointer (some ⟨b, 0, none⟩)] w (ChangeR B w (joinW ws vs)) := by
  have hz := hB.lt
  have hn2 := hv.le
  have H := Lib.hid (And.intro hw (And.intro hn (And.intro hB (And.intro hv (And.intro hE0 (And.intro hB0 c1))))))
  clear hB hw hv hE0 c1
  go_enter Tryd.func61, Tryd.ntmps61
  go_wp2
  go_loopg [6] n (fun m i wr => ∃ (k : Nat) (cur : List Nat), k + m = n ∧ i = .int .i64 k ∧ cur.length = n ∧ (∀ j, j < n → wd cur j = if j < k then wd (joinW ws vs) j else wd ws j) ∧ Below B w wr ∧ Blk wr B (encW cur) 47)
  case atStart => exact ⟨0, ws, by omega, rfl, H.out.2.1, fun j _ => by rw [if_neg (by omega)], Below.refl _ _, H.out.2.2.1⟩
  case round =>
    obtain ⟨k, cur, hk, rfl, hcl, hcur, hE, hBr⟩ := hrel
    have hsz := hE.size
    by_cases hlt : k < n
    · have hE0 : Ext w0 wr := Below.trans H.out.2.2.2.2.1 (hE.mono H.out.2.2.2.2.2.1)
      obtain ⟨hw, hl, -, hv, -, hB0, c1⟩ := H.out
      obtain ⟨ad, rfl, hab, hcell⟩ := hv.rd (by omega)
      have cv : wr.cell? (ad.add k) = some (.int .u32 (wd vs k : Nat)) := ((hE0.cell (p := ad.add k) (by rw [block_of_add]; exact hab)).trans (hcell k hlt))
      have d1 : wr.cell? ⟨b, 1, none⟩ = some (.slice (some ad) n c) := (hE0.cell (p := ⟨b, 1, none⟩) hb0).trans c1
      have ck : wr.cell? ⟨B, k, none⟩ = some (.int .u32 (wd ws k : Nat)) := by
        rw [hBr.cell, encW_get cur k (by omega), hcur k hlt, if_neg (by omega)]
      have fk := hBr.frozen k
      have T0 := join_wd ws vs k (by omega)
      have h5 : (k : Int) < n := by omega
      have X1 := u32_or_nat (wd ws k) (wd vs k) (wd_lt hw k) (wd_lt hv.lt k)
      generalize wd ws k = y at *
      generalize wd vs k = z at *
      generalize y ||| z = r at *
      have HH := Lib.hid (And.intro hcl (And.intro hcur (And.intro hE (And.intro hBr T0))))
      clear hcl hcur hE hBr T0 hw hl hv hcell c1 hE0
      go_wp2
      refine wp_region_tail 12 11 rfl (by kernel_rfl) (by kernel_rfl) (by kernel_rfl) ?_
      apply Exists.intro
      refine ⟨fun c => ?_, fun W hW => ?_⟩
      · have hx := fun (o : From c.w) p h => From.cell2 c.h o p h
        simp only [List.take_succ_cons, List.take_zero]
        repeat (go_big_quiet_step (fail))
        exact wpQuiet_nil rfl
      · have fk' : W.frozen? ⟨B, k, none⟩ = false := by rw [hW.frozen (by show B < _; omega)]; exact fk
        have ck' : W.cell? ⟨B, k, none⟩ = some (.int .u32 (y : Nat)) := by rw [hW.cell (by show B < _; omega)]; exact ck
        simp only [List.drop_succ_cons, List.drop_zero]
        have HW := Lib.hid hW
        clear hW
        go_wp2
        go_roundg (gk - 1)
        case measure => omega
        case rel =>
          obtain ⟨hcl, hcur, hE, hBr, T0⟩ := HH.out
          refine ⟨k + 1, cur.set k r, by omega, by go_num, by rw [List.length_set]; exact hcl, fun j hj => ?_, (Below.trans hE (HW.out.mono (by omega))).setCell (p := ⟨B, k, none⟩) (Nat.le_refl _) _, by rw [← encW_set]; exact (hBr.ext HW.out).set k _⟩
          rw [wd_set (by omega), hcur j hj]
          by_cases hjk : j = k
          · subst hjk; rw [if_pos rfl, if_pos (by omega), T0]
          · rw [if_neg hjk]
            by_cases h1 : j < k
            · rw [if_pos h1, if_pos (by omega)]
            · rw [if_neg h1, if_neg (by omega)]
    · have hk' : k = n := by omega
      subst hk'
      have HH := Lib.hid (And.intro hcl (And.intro hcur (And.intro hE hBr)))
      clear hcl hcur hE hBr
      go_wp2
      go_end0
      obtain ⟨hcl, hcur, hE, hBr⟩ := HH.out
      have e : cur = joinW ws vs := by
        apply List.ext_getElem (by rw [hcl, join_len]; omega)
        intro j h1 h2
        have := hcur j (by omega)
        rw [if_pos (by omega)] at this
        simpa [wd, h1, h2] using this
      exact ⟨⟨_, rfl⟩, hE, by rw [← e]; exact hBr⟩

/-- A change of words, wherever they are laid later. -/
def IsChange (w0 : World) (v : Value) (n : Nat) (g : List Nat → List Nat) : Prop :=
  ∃ f bs, v = .func (.func f) #[] bs ∧ (∀ args w, (callFunc f args).run Tryd.prog w = .ok (.enter f args) w) ∧
    ∀ (W : World) (B : Nat) (ws : List Nat), Ext w0 W → w0.heap.size ≤ B → ws.length = n → W32 ws → Blk W B (encW ws) 47 → Calls Tryd.prog f (#[.slice (some ⟨B, 0, none⟩) n n] ++ bs) W (ChangeR B W (g ws))
theorem IsChange.ext {w0 w1 : World} {v : Value} {n : Nat} {g : List Nat → List Nat} (h : IsChange w0 v n g) (k : Ext w0 w1) : IsChange w1 v n g := by
  obtain ⟨f, bs, e, he, hc⟩ := h
  exact ⟨f, bs, e, he, fun W B ws hW hB => hc W B ws (Ext.trans k hW) (Nat.le_trans k.size hB)⟩

set_option maxRecDepth 100000 in
set_option maxHeartbeats 1000000 in
theorem made0_any (N : Int) (h0 : 0 ≤ N) (h1 : N ≤ 20000) (m : Nat) (hm : (N + 31) / 32 = m) (w : World) :
    Calls Tryd.prog 36 #[.int .i64 N, .slice none 0 0] w (MadeR w N m (List.replicate m 0)) := by
  have WO := fun w => wordsOf_any N h0 h1 w
  rw [hm] at WO
  have W1 := Lib.hid WO
  have M := make_words m (by omega)
  clear WO hm
  go_enter Tryd.func36, Tryd.ntmps36
  go_wp2_with (go_at_call 38; refine (W1.out _).mono ?_; rintro e w1 ⟨rfl, rfl⟩)
  refine wp_loop_rounds 1 ?_
  rw [rounds_succ]
  go_wp2
  refine bodyPost_ret (v := .agg #[.int .i64 N, .slice (some ⟨w.heap.size + 1, 0, none⟩) m m]) (by simp [results, Tryd.results36, go_sem]) rfl ⟨w.heap.size + 1, rfl, by omega, ?_, ?_⟩
  · have := Blk.new (w.alloc (.cells #[.int .i64 N, .slice (some ⟨w.heap.size + 1, 0, none⟩) m m] 24)) (encW (List.replicate m 0)) 47
    rwa [World.size_alloc] at this
  · exact ((Ext.refl w).alloc (Nat.le_refl _) _).alloc (by simp) _

set_option maxRecDepth 100000 in
set_option maxHeartbeats 2000000 in
theorem made2_any (N : Int) (h0 : 0 ≤ N) (h1 : N ≤ 20000) (m : Nat) (hm : (N + 31) / 32 = m) (w : World) (v1 v2 : Value) (g1 g2 : List Nat → List Nat) (b cap : Nat) (t : TypeId) (hb : Blk w b #[v1, v2] t)
    (c1 : IsChange w v1 m g1) (c2 : IsChange w v2 m g2) (hg1 : ∀ ws, ws.length = m → W32 ws → (g1 ws).length = m ∧ W32 (g1 ws)) :
    Calls Tryd.prog 36 #[.int .i64 N, .slice (some ⟨b, 0, none⟩) 2 cap] w (MadeR w N m (g2 (g1 (List.replicate m 0)))) := by
  have WO := fun w => wordsOf_any N h0 h1 w
  rw [hm] at WO
  have W1 := Lib.hid WO
  have M := make_words m (by omega)
  obtain ⟨f1, bs1, rfl, he1, hc1⟩ := c1
  obtain ⟨f2, bs2, rfl, he2, hc2⟩ := c2
  have hz := hb.lt
  have d0 : w.cell? ⟨b, 0, none⟩ = some (.func (.func f1) #[] bs1) := by rw [hb.cell]; rfl
  have d1 : w.cell? ⟨b, 1, none⟩ = some (.func (.func f2) #[] bs2) := by rw [hb.cell]; rfl
  have C1 := Lib.hid hc1
  have C2 := Lib.hid hc2
  have G1 := Lib.hid hg1
  have E2 : Ext w ((w.alloc (.cells #[.int .i64 0, .slice none 0 0] 24)).alloc (.cells (encW (List.replicate m 0)) 47)) := ((Ext.refl w).alloc (Nat.le_refl _) _).alloc (by simp) _
  have B2 := Blk.new (w.alloc (.cells #[.int .i64 0, .slice none 0 0] 24)) (encW (List.replicate m 0)) 47
  rw [World.size_alloc] at B2
  have HE := Lib.hid (And.intro E2 B2)
  clear WO hm hb hc1 hc2 hg1 E2 B2
  go_enter Tryd.func36, Tryd.ntmps36
  go_wp2_with (go_at_call 38; refine (W1.out _).mono ?_; rintro e w1 ⟨rfl, rfl⟩)
  refine wp_loop_rounds 3 ?_
  rw [rounds_succ]
  go_wp2_with fail
  refine (C1.out _ (w.heap.size + 1) (List.replicate m 0) HE.out.1 (by omega) (by simp) (zeros_W32 m) HE.out.2).mono ?_
  rintro e w2 ⟨⟨v, rfl⟩, hE2, hB2⟩
  have hE3 : Ext w w2 := Below.trans HE.out.1 (hE2.mono (by omega))
  have d1' : w2.cell? ⟨b, 1, none⟩ = some (.func (.func f2) #[] bs2) := (extAt hE3 b 1 hz).trans d1
  have R0 : Blk ((w.alloc (.cells #[.int .i64 0, .slice none 0 0] 24)).alloc (.cells (encW (List.replicate m 0)) 47)) w.heap.size #[.int .i64 0, .slice none 0 0] 24 := (Blk.new _ _ _).alloc _
  have R1 := R0.below hE2 (by omega)
  have L1 := G1.out _ (by simp) (zeros_W32 m)
  have HX := Lib.hid (And.intro hE3 (And.intro hB2 (And.intro R1 L1)))
  clear hE2 hE3 hB2 R0 R1 L1
  go_wp2_with fail
  rw [rounds_succ]
  go_wp2_with fail
  refine (C2.out w2 (w.heap.size + 1) (g1 (List.replicate m 0)) HX.out.1 (by omega) HX.out.2.2.2.1 HX.out.2.2.2.2 HX.out.2.1).mono ?_
  rintro e w3 ⟨⟨v', rfl⟩, hE4, hB4⟩
  have hE5 : Ext w w3 := Below.trans HX.out.1 (hE4.mono (by omega))
  have R2 := HX.out.2.2.1.below hE4 (by omega)
  have r0 := R2.cell 0
  have r1 := R2.cell 1
  have q0 := R2.frozen 0
  have q1 := R2.frozen 1
  simp at r0 r1
  have HY := Lib.hid (And.intro hE5 (And.intro hB4 R2))
  clear hE4 hE5 hB4 R2
  go_wp2_with fail
  rw [rounds_succ]
  go_wp2
  obtain ⟨hE5, hB4, R2⟩ := HY.out
  have R3 := (R2.set 0 (.int .i64 N)).set 1 (.slice (some ⟨w.heap.size + 1, 0, none⟩) m m)
  have s0 := R3.cell 0
  have s1 := R3.cell 1
  simp at s0 s1
  refine bodyPost_ret (v := .agg #[.int .i64 N, .slice (some ⟨w.heap.size + 1, 0, none⟩) m m]) (by simp [results, Tryd.results36, go_sem, s0, s1]) rfl ⟨w.heap.size + 1, rfl, by omega, ?_, ?_⟩
  · exact (hB4.other _ _ (by show w.heap.size + 1 ≠ w.heap.size; omega)).other _ _ (by show w.heap.size + 1 ≠ w.heap.size; omega)
  · exact (hE5.setCell (p := ⟨w.heap.size, _, none⟩) (Nat.le_refl _) _).setCell (p := ⟨w.heap.size, _, none⟩) (Nat.le_refl _) _
end
end Go.Proofs.YtichgkeglgagfaaDoor
