/- addr.eachClass, classOf. -/
import Derived.Test.YthaddecdgihocaaDoorPlace
namespace Go.Proofs.YthaddecdgihocaaDoor
open Go.RowKit Go
attribute [local go_sem] Oper.semAt_some
section
variable {a0 a2 a3 : Addr}

theorem cls0 (w : World) : (Instr.index 60 (.agg #[.int .i64 1, .int .i64 1, .int .i64 128, .int .i64 2, .int .i64 129, .int .i64 2048, .int .i64 3, .int .i64 2049, .int .i64 131072]) (.int .i64 0)).run Tryd.prog w = .ok (.agg #[.int .i64 1, .int .i64 1, .int .i64 128]) w := by kernel_rfl
theorem cls1 (w : World) : (Instr.index 60 (.agg #[.int .i64 1, .int .i64 1, .int .i64 128, .int .i64 2, .int .i64 129, .int .i64 2048, .int .i64 3, .int .i64 2049, .int .i64 131072]) (.int .i64 1)).run Tryd.prog w = .ok (.agg #[.int .i64 2, .int .i64 129, .int .i64 2048]) w := by kernel_rfl
theorem cls2 (w : World) : (Instr.index 60 (.agg #[.int .i64 1, .int .i64 1, .int .i64 128, .int .i64 2, .int .i64 129, .int .i64 2048, .int .i64 3, .int .i64 2049, .int .i64 131072]) (.int .i64 2)).run Tryd.prog w = .ok (.agg #[.int .i64 3, .int .i64 2049, .int .i64 131072]) w := by kernel_rfl
def classXs : List (Array Value) := [#[.agg #[.int .i64 1, .int .i64 1, .int .i64 128]], #[.agg #[.int .i64 2, .int .i64 129, .int .i64 2048]], #[.agg #[.int .i64 3, .int .i64 2049, .int .i64 131072]]]

set_option maxHeartbeats 1000000 in
theorem eachClass_iter (w : World) (hG : G a0 a2 a3 w) : Iter Tryd.prog (fun k => k = 4) 50 #[] classXs w := by
  intro l J Jx W hW hJ hJx hY hJ0
  have hs := hG.sz
  have e : ∀ o, W.cell? ⟨4, o, none⟩ = w.cell? ⟨4, o, none⟩ := fun o => hW.at _ _ (by omega) (.inl rfl)
  have k0 := (e 0).trans hG.k0
  have k1 := (e 1).trans hG.k1
  have k2 := (e 2).trans hG.k2
  have k3 := (e 3).trans hG.k3
  have k4 := (e 4).trans hG.k4
  have k5 := (e 5).trans hG.k5
  have k6 := (e 6).trans hG.k6
  have k7 := (e 7).trans hG.k7
  have k8 := (e 8).trans hG.k8
  have H := Lib.hid (And.intro hJ (And.intro hJx hY))
  have H0 := Lib.hid hJ0
  clear hJ hJx hY hW hG hJ0 e
  refine callsIn_of_wp Tryd.func50 rfl trivial ?_ rfl
  simp only [Tryd.ntmps50, List.size_toArray, List.length_cons, List.length_nil, Nat.reduceAdd, Nat.reduceSub, Array.replicate_succ, Array.replicate_zero, List.push_toArray, List.append_toArray, List.nil_append, List.cons_append]
  have i0 := cls0
  have i1 := cls1
  have i2 := cls2
  obtain ⟨f0, t0, p0, q0, hy0, hR0⟩ := H.out.2.2 0 _ (W.alloc (.cells #[.int .i64 1, .int .i64 1, .int .i64 128] 57)) rfl (H.out.1 0 W _ H0.out ((Below.refl _ _).alloc (Nat.le_refl _) _))
  gi_wp2
  refine wpIn_loop_rounds 4 ?_
  rw [roundsIn_succ]
  gi_wp2
  refine hR0.mono ?_
  rintro e W1 (⟨rfl, hJ1, hk1⟩ | ⟨rfl, hx1⟩)
  · have z1 : W.heap.size ≤ W1.heap.size := by have := hk1.size; simp at this; omega
    obtain ⟨f1, t1, p1, q1, hy1, hR1⟩ := H.out.2.2 1 _ (W1.alloc (.cells #[.int .i64 2, .int .i64 129, .int .i64 2048] 57)) rfl (H.out.1 1 W1 _ hJ1 ((Below.refl _ _).alloc (z1) _))
    clear hk1 hJ1 hR0 hy0
    gi_wp2
    rw [roundsIn_succ]
    gi_wp2
    refine hR1.mono ?_
    rintro e W2 (⟨rfl, hJ2, hk2⟩ | ⟨rfl, hx2⟩)
    · have z2 : W.heap.size ≤ W2.heap.size := by have := hk2.size; simp at this; omega
      obtain ⟨f2, t2, p2, q2, hy2, hR2⟩ := H.out.2.2 2 _ (W2.alloc (.cells #[.int .i64 3, .int .i64 2049, .int .i64 131072] 57)) rfl (H.out.1 2 W2 _ hJ2 ((Below.refl _ _).alloc (z2) _))
      clear hk2 hJ2 hR1 hy1
      gi_wp2
      rw [roundsIn_succ]
      gi_wp2
      refine hR2.mono ?_
      rintro e W3 (⟨rfl, hJ3, hk3⟩ | ⟨rfl, hx3⟩)
      · clear hk3 hR2 hy2
        have HJ3 := Lib.hid hJ3
        clear hJ3
        gi_wp2
        rw [roundsIn_succ]
        gi_wp2
        go_end0
        exact ⟨⟨_, rfl⟩, .inl HJ3.out⟩
      · gi_wp2
        refine bodyPost_ret (results_none rfl _ _ _) rfl ?_
        exact ⟨⟨_, rfl⟩, .inr ⟨3, by decide, hx3⟩⟩
    · gi_wp2
      refine bodyPost_ret (results_none rfl _ _ _) rfl ?_
      exact ⟨⟨_, rfl⟩, .inr ⟨2, by decide, hx2⟩⟩
  · gi_wp2
    refine bodyPost_ret (results_none rfl _ _ _) rfl ?_
    exact ⟨⟨_, rfl⟩, .inr ⟨1, by decide, hx1⟩⟩

def cls (n : Int) : Int := if 1 ≤ n ∧ n ≤ 128 then 1 else if 129 ≤ n ∧ n ≤ 2048 then 2 else if 2049 ≤ n ∧ n ≤ 131072 then 3 else 0

set_option maxHeartbeats 2000000 in
theorem classOf_any (n : Int) (w : World) (hG : G a0 a2 a3 w) :
    Calls Tryd.prog 38 #[.int .i64 n] w fun e w' => e = .returned (.int .i64 (cls n)) ∧ Ext w w' := by
  refine calls_of_marks Tryd.func38 rfl ?_
  simp only [Tryd.ntmps38, List.size_toArray, List.length_cons, List.length_nil, Nat.reduceAdd, Nat.reduceSub, Array.replicate_succ, Array.replicate_zero, List.push_toArray, List.append_toArray, List.nil_append, List.cons_append]
  have G' := Lib.hid hG
  clear hG
  have hs := G'.out.sz
  go_wp2
  refine wp_world ?_
  intro w1 hw1
  have hE1 : Ext w w1 := by rw [hw1]; exact (((Below.refl _ _).alloc (Nat.le_refl _) _).alloc (by simp) _)
  have hz1 : w.heap.size + 2 ≤ w1.heap.size := by rw [hw1]; simp
  have hb0 : Blk w1 w.heap.size #[.int .i64 n] 3 := by rw [hw1]; exact (Blk.new _ _ _).alloc _
  have hb1 : Blk w1 (w.heap.size + 1) #[.int .i64 0] 3 := by
    have := Blk.new (w.alloc (.cells #[.int .i64 n] 3)) #[.int .i64 0] 3
    rw [World.size_alloc] at this
    rw [hw1]; exact this
  clear hw1
  refine range_outer (D := fun k => k = 4) rfl (enters_of Tryd.func50 (by kernel_rfl) rfl)
    (eachClass_iter (a0 := a0) (a2 := a2) (a3 := a3) w1 (G'.out.ext hE1)) (by rintro k rfl; omega) (Keep.refl _ _ _) (by intro x hx; simp [classXs] at hx; rcases hx with rfl | rfl | rfl <;> rfl)
    (fun k W => Ext w W ∧ Blk W w.heap.size #[.int .i64 n] 3 ∧ Blk W (w.heap.size + 1) #[.int .i64 0] 3 ∧ (1 ≤ k → ¬ (1 ≤ n ∧ n ≤ 128)) ∧ (2 ≤ k → ¬ (129 ≤ n ∧ n ≤ 2048)) ∧ (3 ≤ k → ¬ (2049 ≤ n ∧ n ≤ 131072)))
    (fun c k W => c = .ret ∧ Ext w W ∧ Blk W (w.heap.size + 1) #[.int .i64 (cls n)] 3) ?hI ?hIx ⟨hE1, hb0, hb1, by omega, by omega, by omega⟩ ?hround ?hdone ?hstop
  case hI =>
    rintro k A B ⟨h1, h2, h3, h4⟩ hb
    exact ⟨Below.trans h1 (hb.mono (by omega)), h2.below hb (by omega), h3.below hb (by omega), h4⟩
  case hIx =>
    rintro c k A B ⟨rfl, h1, h2⟩ hb
    exact ⟨rfl, Below.trans h1 (hb.mono (by omega)), h2.below hb (by omega)⟩
  case hdone =>
    rintro K W hK ⟨hE, hB0, hB1, hc1, hc2, hc3⟩ hk
    have c1 := hB1.cell 0
    have f1 := hB1.frozen 0
    have H := Lib.hid (And.intro hE (And.intro hB1 (And.intro hk (And.intro hK (show cls n = 0 by simp [classXs] at hc1 hc2 hc3; unfold cls; rw [if_neg (by omega), if_neg (by omega), if_neg (by omega)])))))
    clear hE hB0 hB1 hk hK hc1 hc2 hc3
    simp at c1
    go_wp2
    obtain ⟨hE, hB1, hk, hK, hz⟩ := H.out
    have hF := (hB1.set 0 (.int .i64 0)).putObj K (.deferred none) (by omega)
    have e0 := hF.cell 0
    simp at e0
    refine leave_mark (v := .int .i64 0) ?_ ?_ ⟨by rw [hz], ?_⟩
    · rw [Below.heap_setCell _ _ _ _ (by show K ≠ w.heap.size + 1; omega)]
      exact hk
    · simp [results, Tryd.results38, go_sem, e0]
    · exact Below.trans (hE.setCell (p := ⟨w.heap.size + 1, 0, none⟩) (by show w.heap.size ≤ w.heap.size + 1; omega) _) (below_putObj _ K w.heap.size _ (by omega))
  case hstop =>
    rintro K c k W hK hk2 ⟨rfl, hE, hB1⟩ hk
    have H := Lib.hid (And.intro hE (And.intro hB1 (And.intro hk hK)))
    clear hE hB1 hk hK
    go_wp2
    obtain ⟨hE, hB1, hk, hK⟩ := H.out
    have hF := hB1.putObj K (.deferred none) (by omega)
    have e0 := hF.cell 0
    simp at e0
    refine leave_mark (v := .int .i64 (cls n)) hk ?_ ⟨rfl, ?_⟩
    · simp [results, Tryd.results38, go_sem, e0]
    · exact Below.trans hE (below_putObj _ K w.heap.size _ (by omega))
  case hround =>
    rintro l k x W hx hl hr ⟨hE, hB0, hB1, hc⟩
    have H := Lib.hid (And.intro hE (And.intro hB0 (And.intro hB1 hc)))
    clear hE hB0 hB1 hc
    have hx3 : (k = 0 ∧ x = #[.agg #[.int .i64 1, .int .i64 1, .int .i64 128]]) ∨ (k = 1 ∧ x = #[.agg #[.int .i64 2, .int .i64 129, .int .i64 2048]]) ∨ (k = 2 ∧ x = #[.agg #[.int .i64 3, .int .i64 2049, .int .i64 131072]]) := by
      rcases k with _ | _ | _ | k <;> simp [classXs] at hx
      · exact .inl ⟨rfl, hx.symm⟩
      · exact .inr (.inl ⟨rfl, hx.symm⟩)
      · exact .inr (.inr ⟨rfl, hx.symm⟩)
    clear hx
    rcases hx3 with ⟨rfl, rfl⟩ | ⟨rfl, rfl⟩ | ⟨rfl, rfl⟩
    all_goals
      gi_wp2
      refine to_body1 hl hr ((Keep.refl _ _ _).alloc _) ?_
      intro W' ho hW' hlt hr'
      obtain ⟨hE, hB0, hB1, hc⟩ := H.out
      have hz := ho.size
      simp at hz
      have hBx := (Blk.new W _ _).off ho (show W.heap.size ≠ l by omega)
      replace hE := Below.trans (hE.alloc hE.size _) (hW'.mono (by omega))
      replace hB0 := (hB0.alloc _).below hW' (by omega)
      replace hB1 := (hB1.alloc _).below hW' (by omega)
      have c0 := hB0.cell 0
      have d0 := hB1.cell 0
      have f0 := hB1.frozen 0
      have s0 := hBx.cell 0
      have s1 := hBx.cell 1
      have s2 := hBx.cell 2
      simp at c0 d0 s0 s1 s2
      have H' := Lib.hid (And.intro hE (And.intro hB0 (And.intro hB1 hc)))
      clear hE hB0 hB1 hc H hr hr' hW' ho hBx hz
      gi_wp2
      all_goals
        have hcc := H'.out.2.2.2
        first
          | exact ⟨Keep.refl _ _ _, H'.out.1, H'.out.2.1, H'.out.2.2.1, by omega, by omega, by omega⟩
          | (refine ⟨(Keep.refl _ _ _).setCell _ _ (.inl (by show w.heap.size + 1 < _; omega)) (.inl (by show ¬ (w.heap.size + 1 = _); omega)), rfl,
              H'.out.1.setCell (p := ⟨w.heap.size + 1, _, none⟩) (by show w.heap.size ≤ w.heap.size + 1; omega) _, ?_⟩
             have hq := H'.out.2.2.1.set 0 (.int .i64 (cls n))
             unfold cls at hq ⊢
             first
               | (rw [if_pos (by omega)] at hq ⊢; exact hq)
               | (rw [if_neg (by omega), if_pos (by omega)] at hq ⊢; exact hq)
               | (rw [if_neg (by omega), if_neg (by omega), if_pos (by omega)] at hq ⊢; exact hq))
end
end Go.Proofs.YthaddecdgihocaaDoor
