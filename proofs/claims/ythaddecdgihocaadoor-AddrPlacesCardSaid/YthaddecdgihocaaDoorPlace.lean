/- addr.numbers, placeOf, sum, lineOf. -/
import Derived.Test.YthaddecdgihocaaDoorTold2
namespace Go.Proofs.YthaddecdgihocaaDoor
open Go.RowKit Go
attribute [local go_sem] Oper.semAt_some
section
variable {a0 a2 a3 : Addr}

theorem numbers_any (a : Int) (w : World) :
    Calls Tryd.prog 47 #[.int .i64 a] w fun e w' => e = .returned (.func (.func 56) #[] #[.pointer (some ⟨w.heap.size, 0, none⟩)]) ∧ w' = w.alloc (.cells #[.int .i64 a] 3) := by
  go_enter Tryd.func47, Tryd.ntmps47
  go_wp2
  go_ret
  exact ⟨rfl, rfl⟩

theorem unit0 (w : World) : (Instr.index 39 (.agg #[.int .i64 4096, .int .i64 128, .int .i64 1]) (.int .i64 0)).run Tryd.prog w = .ok (.int .i64 4096) w := by kernel_rfl
theorem unit1 (w : World) : (Instr.index 39 (.agg #[.int .i64 4096, .int .i64 128, .int .i64 1]) (.int .i64 1)).run Tryd.prog w = .ok (.int .i64 128) w := by kernel_rfl
theorem unit2 (w : World) : (Instr.index 39 (.agg #[.int .i64 4096, .int .i64 128, .int .i64 1]) (.int .i64 2)).run Tryd.prog w = .ok (.int .i64 1) w := by kernel_rfl
def numXs (a : Int) : List (Array Value) := [#[.int .i64 0, .int .i64 (a / 4096)], #[.int .i64 1, .int .i64 (a % 4096 / 128)], #[.int .i64 2, .int .i64 (a % 128)]]

set_option maxHeartbeats 1000000 in
theorem numbers_iter (a : Int) (h0 : 0 ≤ a) (h1 : a < 131072) (b : Nat) (w : World) (hG : G a0 a2 a3 w) (hb : b < w.heap.size) (hc : w.cell? ⟨b, 0, none⟩ = some (.int .i64 a)) :
    Iter Tryd.prog (fun k => k = 1 ∨ k = b) 56 #[.pointer (some ⟨b, 0, none⟩)] (numXs a) w := by
  intro l J Jx W hW hJ hJx hY hJ0
  have hs := hG.sz
  have u0 : W.cell? ⟨1, 0, none⟩ = some (.int .i64 4096) := (hW.at 1 0 (by omega) (.inl (.inl rfl))).trans hG.u0
  have u1 : W.cell? ⟨1, 1, none⟩ = some (.int .i64 128) := (hW.at 1 1 (by omega) (.inl (.inl rfl))).trans hG.u1
  have u2 : W.cell? ⟨1, 2, none⟩ = some (.int .i64 1) := (hW.at 1 2 (by omega) (.inl (.inl rfl))).trans hG.u2
  have c : W.cell? ⟨b, 0, none⟩ = some (.int .i64 a) := (hW.at b 0 hb (.inl (.inr rfl))).trans hc
  have H := Lib.hid (And.intro hJ (And.intro hJx hY))
  have H0 := Lib.hid hJ0
  clear hJ hJx hY hW hG hc hJ0
  refine callsIn_of_wp Tryd.func56 rfl trivial ?_ rfl
  simp only [Tryd.ntmps56, List.size_toArray, List.length_cons, List.length_nil, Nat.reduceAdd, Nat.reduceSub, Array.replicate_succ, Array.replicate_zero, List.push_toArray, List.append_toArray, List.nil_append, List.cons_append]
  obtain ⟨f1, t1, p1, q1, hy1, hR1⟩ := H.out.2.2 0 _ W rfl H0.out
  have i0 := unit0
  have i1 := unit1
  have i2 := unit2
  gi_wp2
  refine wpIn_loop_rounds 4 ?_
  rw [roundsIn_succ]
  gi_wp2
  refine hR1.mono ?_
  rintro e W1 (⟨rfl, hJ1, hk1⟩ | ⟨rfl, hx1⟩)
  · obtain ⟨f2, t2, p2, q2, hy2, hR2⟩ := H.out.2.2 1 _ W1 rfl hJ1
    clear hk1 hJ1 hR1 hy1
    gi_wp2
    rw [roundsIn_succ]
    gi_wp2
    refine hR2.mono ?_
    rintro e W2 (⟨rfl, hJ2, hk2⟩ | ⟨rfl, hx2⟩)
    · obtain ⟨f3, t3, p3, q3, hy3, hR3⟩ := H.out.2.2 2 _ W2 rfl hJ2
      clear hk2 hJ2 hR2 hy2
      gi_wp2
      rw [roundsIn_succ]
      gi_wp2
      refine hR3.mono ?_
      rintro e W3 (⟨rfl, hJ3, hk3⟩ | ⟨rfl, hx3⟩)
      · clear hk3 hR3 hy3
        have HJ3 := Lib.hid hJ3
        clear hJ3
        gi_wp2
        rw [roundsIn_succ]
        gi_wp2
        go_end0
        exact ⟨⟨_, rfl⟩, .inl HJ3.out⟩
      · gi_wp2
        refine bodyPost_ret (results_none rfl _ _ _) rfl ?_
        exact ⟨⟨_, rfl⟩, .inr ⟨3, by simp [numXs], hx3⟩⟩
    · gi_wp2
      refine bodyPost_ret (results_none rfl _ _ _) rfl ?_
      exact ⟨⟨_, rfl⟩, .inr ⟨2, by simp [numXs], hx2⟩⟩
  · gi_wp2
    refine bodyPost_ret (results_none rfl _ _ _) rfl ?_
    exact ⟨⟨_, rfl⟩, .inr ⟨1, by simp [numXs], hx1⟩⟩

/-- what the walk of sum leaves -/
def psum (x y z : Int) : Int := wrap64 (wrap64 (wrap64 (wrap64 (x * 4096)) + wrap64 (y * 128)) + wrap64 z)

set_option maxHeartbeats 1000000 in
theorem sum_any (x y z : Int) (w : World) (hG : G a0 a2 a3 w) :
    Calls Tryd.prog 34 #[.agg #[.int .i64 x, .int .i64 y, .int .i64 z]] w fun e w' => e = .returned (.int .i64 (psum x y z)) ∧ Ext w w' := by
  have hs := hG.sz
  have z1 : 1 < w.heap.size := by omega
  have u0 := hG.u0
  have u1 := hG.u1
  have u2 := hG.u2
  have i0 := unit0
  have i1 := unit1
  have i2 := unit2
  clear hG
  go_enter Tryd.func34, Tryd.ntmps34
  go_wp2
  refine wp_loop_rounds 4 ?_
  rw [rounds_succ]
  go_wp2
  rw [rounds_succ]
  go_wp2
  rw [rounds_succ]
  go_wp2
  rw [rounds_succ]
  go_wp2
  go_ret
  exact ⟨rfl, (Below.refl _ _).alloc (Nat.le_refl _) _⟩

def plA (a : Int) (k : Nat) : Array Value := #[.int .i64 (if 1 ≤ k then a / 4096 else 0), .int .i64 (if 2 ≤ k then a % 4096 / 128 else 0), .int .i64 (if 3 ≤ k then a % 128 else 0)]

theorem numXs_cases {a : Int} {k : Nat} {x : Array Value} (h : (numXs a)[k]? = some x) :
    (k = 0 ∧ x = #[.int .i64 0, .int .i64 (a / 4096)]) ∨ (k = 1 ∧ x = #[.int .i64 1, .int .i64 (a % 4096 / 128)]) ∨ (k = 2 ∧ x = #[.int .i64 2, .int .i64 (a % 128)]) := by
  rcases k with _ | _ | _ | k <;> simp [numXs] at h
  · exact .inl ⟨rfl, h.symm⟩
  · exact .inr (.inl ⟨rfl, h.symm⟩)
  · exact .inr (.inr ⟨rfl, h.symm⟩)

set_option maxHeartbeats 2000000 in
theorem placeOf_any (a : Int) (h0 : 0 ≤ a) (h1 : a < 131072) (w : World) (hG : G a0 a2 a3 w) :
    Calls Tryd.prog 32 #[.int .i64 a] w fun e w' => e = .returned (.agg #[.int .i64 (a / 4096), .int .i64 (a % 4096 / 128), .int .i64 (a % 128)]) ∧ Ext w w' := by
  refine calls_of_marks Tryd.func32 rfl ?_
  simp only [Tryd.ntmps32, List.size_toArray, List.length_cons, List.length_nil, Nat.reduceAdd, Nat.reduceSub, Array.replicate_succ, Array.replicate_zero, List.push_toArray, List.append_toArray, List.nil_append, List.cons_append]
  have G' := Lib.hid hG
  clear hG
  go_wp2_with (go_at_call 47; refine (numbers_any _ _).mono ?_; rintro e w' ⟨rfl, rfl⟩)
  have hs := G'.out.sz
  refine wp_world ?_
  intro w1 hw1
  have hE1 : Ext w w1 := by rw [hw1]; exact ((((Below.refl _ _).alloc (Nat.le_refl _) _).alloc (by simp) _).alloc (by simp; omega) _)
  have hz1 : w1.heap.size = w.heap.size + 3 := by rw [hw1]; simp
  have hb0 : Blk w1 w.heap.size #[.int .i64 0, .int .i64 0, .int .i64 0] 40 := by rw [hw1]; exact ((Blk.new _ _ _).alloc _).alloc _
  have hb1 : Blk w1 (w.heap.size + 1) (plA a 0) 40 := by rw [hw1]; have := (Blk.new (w.alloc (.cells #[.int .i64 0, .int .i64 0, .int .i64 0] 40)) (plA a 0) 40).alloc (.cells #[.int .i64 a] 3); rwa [World.size_alloc] at this
  have hc1 : w1.cell? ⟨w.heap.size + 1 + 1, 0, none⟩ = some (.int .i64 a) := by
    have := (Blk.new ((w.alloc (.cells #[.int .i64 0, .int .i64 0, .int .i64 0] 40)).alloc (.cells #[.int .i64 0, .int .i64 0, .int .i64 0] 40)) #[.int .i64 a] 3).cell 0
    rw [World.size_alloc, World.size_alloc] at this
    rw [hw1]; exact this
  clear hw1
  refine range_outer (D := fun k => k = 1 ∨ k = w.heap.size + 1 + 1) rfl (enters_of Tryd.func56 (by kernel_rfl) rfl)
    (numbers_iter (a0 := a0) (a2 := a2) (a3 := a3) a h0 h1 (w.heap.size + 1 + 1) w1 (G'.out.ext hE1) (by omega) hc1) (by rintro k (rfl | rfl) <;> omega) (Keep.refl _ _ _) (by intro x hx; simp [numXs] at hx; rcases hx with rfl | rfl | rfl <;> rfl)
    (fun k W => Ext w W ∧ Blk W w.heap.size #[.int .i64 0, .int .i64 0, .int .i64 0] 40 ∧ Blk W (w.heap.size + 1) (plA a k) 40) (fun _ _ _ => False) ?hI (fun _ _ _ _ h _ => h.elim) ⟨hE1, hb0, hb1⟩ ?hround ?hdone (fun _ _ _ _ _ _ h _ => h.elim)
  case hI =>
    rintro k A B ⟨h1, h2, h3⟩ hb
    exact ⟨Below.trans h1 (hb.mono (by omega)), h2.below hb (by omega), h3.below hb (by omega)⟩
  case hround =>
    rintro l k x W hx hl hr ⟨hE, hB0, hB1⟩
    have H := Lib.hid (And.intro hE (And.intro hB0 hB1))
    clear hE hB0 hB1
    rcases numXs_cases hx with ⟨rfl, rfl⟩ | ⟨rfl, rfl⟩ | ⟨rfl, rfl⟩
    all_goals
      clear hx
      gi_wp2
      refine to_body hl hr ?_
      intro W' hW' hr'
      obtain ⟨hE, hB0, hB1⟩ := H.out
      replace hE := Below.trans hE (hW'.mono (by omega))
      replace hB0 := hB0.below hW' (by omega)
      replace hB1 := hB1.below hW' (by omega)
      have c0 := hB1.cell 0
      have c1 := hB1.cell 1
      have c2 := hB1.cell 2
      have f0 := hB1.frozen 0
      have f1 := hB1.frozen 1
      have f2 := hB1.frozen 2
      simp [plA] at c0 c1 c2
      have H' := Lib.hid (And.intro hE (And.intro hB0 hB1))
      clear hE hB0 hB1 H hr hr' hW'
      gi_wp2
      exact ⟨(Keep.refl _ _ _).setCell _ _ (.inl (by show w.heap.size + 1 < _; omega)) (.inl (by show ¬ (w.heap.size + 1 = _ ∨ w.heap.size + 1 = _); omega)),
        H'.out.1.setCell (p := ⟨w.heap.size + 1, _, none⟩) (by show w.heap.size ≤ w.heap.size + 1; omega) _, H'.out.2.1.other _ _ (by show w.heap.size ≠ w.heap.size + 1; omega), H'.out.2.2.set _ _⟩
  case hdone =>
    rintro K W hK ⟨hE, hB0, hB1⟩ hk
    have c0 := hB1.cell 0
    have c1 := hB1.cell 1
    have c2 := hB1.cell 2
    have d0 := hB0.cell 0
    have d1 := hB0.cell 1
    have d2 := hB0.cell 2
    have f0 := hB0.frozen 0
    have f1 := hB0.frozen 1
    have f2 := hB0.frozen 2
    simp [plA, numXs] at c0 c1 c2 d0 d1 d2
    have H := Lib.hid (And.intro hE (And.intro hB0 (And.intro hk hK)))
    clear hE hB0 hB1 hk hK
    go_wp2
    obtain ⟨hE, hB0, hk, hK⟩ := H.out
    have hF := (((hB0.set 0 (.int .i64 (a / 4096))).set 1 (.int .i64 (a % 4096 / 128))).set 2 (.int .i64 (a % 128))).putObj K (.deferred none) (by omega)
    have e0 := hF.cell 0
    have e1 := hF.cell 1
    have e2 := hF.cell 2
    simp at e0 e1 e2
    refine leave_mark (v := .agg #[.int .i64 (a / 4096), .int .i64 (a % 4096 / 128), .int .i64 (a % 128)]) ?_ ?_ ⟨rfl, ?_⟩
    · rw [Below.heap_setCell _ _ _ _ (by show K ≠ w.heap.size; omega), Below.heap_setCell _ _ _ _ (by show K ≠ w.heap.size; omega), Below.heap_setCell _ _ _ _ (by show K ≠ w.heap.size; omega)]
      exact hk
    · simp [results, Tryd.results32, go_sem, e0, e1, e2]
    · exact (((hE.setCell (p := ⟨w.heap.size, _, none⟩) (Nat.le_refl _) _).setCell (p := ⟨w.heap.size, _, none⟩) (Nat.le_refl _) _).setCell (p := ⟨w.heap.size, _, none⟩) (Nat.le_refl _) _).trans (below_putObj _ _ _ _ (by omega))

set_option maxHeartbeats 2000000 in
theorem lineOf_any (a : Int) (h0 : 0 ≤ a) (h1 : a < 131072) (w : World) (hG : G a0 a2 a3 w) :
    Calls Tryd.prog 43 #[.int .i64 a] w fun e w' => e = .returned (.int .i64 (a / 4096 * 32 + a % 4096 / 128)) ∧ Ext w w' := by
  refine calls_of_marks Tryd.func43 rfl ?_
  simp only [Tryd.ntmps43, List.size_toArray, List.length_cons, List.length_nil, Nat.reduceAdd, Nat.reduceSub, Array.replicate_succ, Array.replicate_zero, List.push_toArray, List.append_toArray, List.nil_append, List.cons_append]
  have G' := Lib.hid hG
  clear hG
  have hs := G'.out.sz
  go_wp2
  go_step3
  go_wp2
  go_step3
  go_wp2_with (go_at_call 47; refine (numbers_any _ _).mono ?_; rintro e w' ⟨rfl, rfl⟩)
  refine wp_world ?_
  intro w1 hw1
  have hE1 : Ext w w1 := by rw [hw1]; exact (((Below.refl _ _).alloc (Nat.le_refl _) _).alloc (by simp) _)
  have hz1 : w1.heap.size = w.heap.size + 2 := by rw [hw1]; simp
  have hb1 : Blk w1 w.heap.size #[.int .i64 0] 3 := by rw [hw1]; exact (Blk.new _ _ _).alloc _
  have hc1 : w1.cell? ⟨w.heap.size + 1, 0, none⟩ = some (.int .i64 a) := by
    have := (Blk.new (w.alloc (.cells #[.int .i64 0] 3)) #[.int .i64 a] 3).cell 0
    rw [World.size_alloc] at this
    rw [hw1]; exact this
  clear hw1
  refine range_outer (D := fun k => k = 1 ∨ k = w.heap.size + 1) rfl (enters_of Tryd.func56 (by kernel_rfl) rfl)
    (numbers_iter (a0 := a0) (a2 := a2) (a3 := a3) a h0 h1 (w.heap.size + 1) w1 (G'.out.ext hE1) (by omega) hc1) (by rintro k (rfl | rfl) <;> omega) (Keep.refl _ _ _) (by intro x hx; simp [numXs] at hx; rcases hx with rfl | rfl | rfl <;> rfl)
    (fun k W => Ext w W ∧ k ≤ 2 ∧ Blk W w.heap.size #[.int .i64 (if k = 0 then 0 else if k = 1 then a / 4096 else a / 4096 * 32 + a % 4096 / 128)] 3)
    (fun c k W => c = .exit 0 ∧ Ext w W ∧ Blk W w.heap.size #[.int .i64 (a / 4096 * 32 + a % 4096 / 128)] 3) ?hI ?hIx ⟨hE1, by omega, hb1⟩ ?hround ?hdone ?hstop
  case hI =>
    rintro k A B ⟨h1, h2, h3⟩ hb
    exact ⟨Below.trans h1 (hb.mono (by omega)), h2, h3.below hb (by omega)⟩
  case hIx =>
    rintro c k A B ⟨rfl, h1, h2⟩ hb
    exact ⟨rfl, Below.trans h1 (hb.mono (by omega)), h2.below hb (by omega)⟩
  case hdone => 
    rintro K W hK ⟨hE, hk2, hB0⟩ hk
    simp [numXs] at hk2
  case hround =>
    rintro l k x W hx hl hr ⟨hE, hk2, hB1⟩
    have H := Lib.hid (And.intro hE hB1)
    clear hE hB1
    rcases numXs_cases hx with ⟨rfl, rfl⟩ | ⟨rfl, rfl⟩ | ⟨rfl, rfl⟩
    all_goals
      clear hx
      gi_wp2
      refine to_body (by omega) hr ?_
      intro W' hW' hr'
      obtain ⟨hE, hB1⟩ := H.out
      replace hE := Below.trans hE (hW'.mono (by omega))
      replace hB1 := hB1.below hW' (by omega)
      have c0 := hB1.cell 0
      have f0 := hB1.frozen 0
      simp at c0
      have H' := Lib.hid (And.intro hE hB1)
      clear hE hB1 H hr hr' hW'
      gi_wp2
      first
        | exact ⟨(Keep.refl _ _ _).setCell _ _ (.inl (by show w.heap.size < _; omega)) (.inl (by show ¬ (w.heap.size = _ ∨ w.heap.size = _); omega)),
            H'.out.1.setCell (p := ⟨w.heap.size, _, none⟩) (Nat.le_refl _) _, by omega, H'.out.2.set 0 _⟩
        | exact ⟨Keep.refl _ _ _, rfl, H'.out.1, H'.out.2⟩
  case hstop =>
    rintro K c k W hK hk2 ⟨rfl, hE, hB0⟩ hk
    have c0 := hB0.cell 0
    simp at c0
    have H := Lib.hid (And.intro hE (And.intro hk hK))
    clear hE hB0 hk hK
    go_wp2
    rw [Exit.noGoto_ret]
    obtain ⟨hE, hk, hK⟩ := H.out
    exact leave_mark hk (results_tmp rfl _ _ _) ⟨rfl, Below.trans hE (below_putObj W K w.heap.size _ (by omega))⟩
end
end Go.Proofs.YthaddecdgihocaaDoor
