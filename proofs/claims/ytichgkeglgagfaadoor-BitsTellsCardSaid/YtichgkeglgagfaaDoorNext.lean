/- bits: Next. -/
import Derived.Test.YtichgkeglgagfaaDoorPlaces
import Derived.ScopeJumps
namespace Go.Proofs.YtichgkeglgagfaaDoor
open Go.RowKit Go
attribute [local go_sem] Oper.semAt_some
def optI : Option Nat → Int
  | none => 0
  | some i => (i : Int)
def nx (N : Int) (ws : List Nat) (f : Int) (on : Bool) : Option Nat := if rightB N ws then nxt N ws (max f 0) on else none
section
variable {a : Nat → Addr}
set_option maxHeartbeats 4000000 in
theorem next_right (N : Int) (A : Option Addr) (n c : Nat) (ws : List Nat) (f : Int) (on : Bool) (hr : rightB N ws = true) (hf : f ≤ 9223372036854775807) (w : World) (h : Bt w A n ws) (hG : G a w) :
    Calls Tryd.prog 30 #[.agg #[.int .i64 N, .slice A n c], .int .i64 f, .bool on] w fun e w' => e = .returned (.tuple #[.int .i64 (optI (nxt N ws (max f 0) on)), .bool (nxt N ws (max f 0) on).isSome]) ∧ Ext w w' := by
  have RR := Lib.hid (fun W (hW : Ext w W) => hr ▸ right_any N A n c ws W (h.ext hW))
  have hr' := (right_iff N ws).1 hr
  have E3 := ext3 w (.cells #[.int .i64 N, .slice A n c] 24) (.cells #[.int .i64 0] 3) (.cells #[.bool false] 4)
  have H := Lib.hid (And.intro h (And.intro hG (And.intro hr' E3)))
  clear h hG hr hr' E3
  obtain ⟨f', hf'⟩ : ∃ f' : Int, max f 0 = f' := ⟨_, rfl⟩
  rw [hf']
  obtain ⟨hf0, hf1, hff⟩ : 0 ≤ f' ∧ f' ≤ 9223372036854775807 ∧ ((0 ≤ f ∧ f' = f) ∨ (f < 0 ∧ f' = 0)) := by omega
  clear hf'
  generalize ho : nxt N ws f' on = o
  have HO := Lib.hid ho
  clear ho
  rcases hff with ⟨g0, rfl⟩ | ⟨g0, rfl⟩
  all_goals
    refine calls_of_marks Tryd.func30 rfl ?_
    simp only [Tryd.ntmps30, List.size_toArray, List.length_cons, List.length_nil, Nat.reduceAdd, Nat.reduceSub, Array.replicate_succ, Array.replicate_zero, List.push_toArray, List.append_toArray, List.nil_append, List.cons_append]
    go_wp2
    go_step3
    go_wp2_with (first | (go_at_call 15; refine (RR.out _ H.out.2.2.2).mono ?_; rintro e w1 ⟨rfl, h1⟩; have B0 : Blk w1 w.heap.size #[.int .i64 N, .slice A n c] 24 := (((Blk.new _ _ _).alloc _).alloc _).ext h1; have p0 := B0.cell 0; have p1 := B0.cell 1; simp at p0 p1; clear B0) | (go_at_call 43; refine (places_mk _ _ _ _ _ _ _).mono ?_; rintro e w2 ⟨rfl, rfl⟩))
    have R0 : Blk w1 (w.heap.size + 1) #[.int .i64 0] 3 := by
      have := ((Blk.new (w.alloc (.cells #[.int .i64 N, .slice A n c] 24)) #[.int .i64 0] 3).alloc (.cells #[.bool false] 4)).ext h1
      rwa [World.size_alloc] at this
    have R1 : Blk w1 (w.heap.size + 1 + 1) #[.bool false] 4 := at_new3 h1
    have hs1 := h1.size
    simp at hs1
    have E1 := Ext.trans H.out.2.2.2 h1
    refine wp_world ?_
    intro w2 hw2
    have E12 : Ext w1 w2 := by rw [hw2]; exact ext3 _ _ _ _
    have b0 : Blk w2 w1.heap.size #[.int .i64 N, .slice A n c] 24 := by rw [hw2]; exact ((Blk.new _ _ _).alloc _).alloc _
    have b1 := at_old (w := w1.alloc (.cells #[.int .i64 N, .slice A n c] 24)) (W := w2) (by rw [hw2]; exact Ext.refl _)
    have b2 := at_new3 (W := w2) (by rw [hw2]; exact Ext.refl _)
    rw [World.size_alloc] at b1
    have s2 : w2.heap.size = w1.heap.size + 3 := by rw [hw2]; simp
    have E2 := Ext.trans E1 E12
    clear hw2 p0 p1
    have HH := Lib.hid (And.intro E2 (And.intro (R0.ext E12) (R1.ext E12)))
    clear R0 R1 E12 h1 E1
    have X2 := H.out
    refine range_outer (D := fun k => k = w1.heap.size + 1 ∨ k = w1.heap.size ∨ k = w1.heap.size + 1 + 1 ∨ k = 3 ∨ ∃ ad, A = some ad ∧ 0 < n ∧ k = ad.block) (w0 := w2) rfl (enters_of Tryd.func56 (by kernel_rfl) rfl)
      (places_iter (a := a) N A n c ws _ on X2.2.2.1 hf0 hf1 (w1.heap.size + 1) w1.heap.size (w1.heap.size + 1 + 1) w2 (X2.1.ext E2) (X2.2.1.ext E2) (by omega) (by omega) (by omega) (by rw [b1.cell]; rfl) (by rw [b0.cell]; rfl) (by rw [b0.cell]; rfl) (by rw [b2.cell]; rfl))
      (by
        have htz := (X2.2.1.ext E2).tz
        rintro k (rfl | rfl | rfl | rfl | ⟨ad, rfl, hn, rfl⟩)
        · omega
        · omega
        · omega
        · exact htz
        · obtain ⟨ad', e, hb, _⟩ := (X2.1.ext E2).rd hn
          cases e
          exact hb) (Keep.refl _ _ _) (by intro x' hx'; obtain ⟨i', _, rfl⟩ := List.mem_map.1 hx'; rfl)
      (fun j W => j = 0 ∧ Ext w W ∧ Blk W (w.heap.size + 1) #[.int .i64 0] 3 ∧ Blk W (w.heap.size + 1 + 1) #[.bool false] 4)
      (fun c' j W => c' = .ret ∧ j = 1 ∧ Ext w W ∧ Blk W (w.heap.size + 1) #[.int .i64 (optI o)] 3 ∧ Blk W (w.heap.size + 1 + 1) #[.bool o.isSome] 4) ?hI ?hIx ⟨rfl, HH.out⟩ ?hround ?hdone ?hstop
    case hI =>
      rintro k A' B ⟨rfl, q1, q2, q3⟩ hb
      exact ⟨rfl, Below.trans q1 (hb.mono (by omega)), q2.below hb (by omega), q3.below hb (by omega)⟩
    case hIx =>
      rintro c' k A' B ⟨rfl, rfl, q1, q2, q3⟩ hb
      exact ⟨rfl, rfl, Below.trans q1 (hb.mono (by omega)), q2.below hb (by omega), q3.below hb (by omega)⟩
    case hround =>
      rintro l' j x' Wx hx' hl' hr' ⟨rfl, q1, q2, q3⟩
      obtain ⟨i', ho, rfl⟩ : ∃ i' : Nat, o = some i' ∧ x' = #[.int .i64 (i' : Nat)] := by
        simp only [intXs, List.getElem?_map, Option.map_eq_some_iff] at hx'
        obtain ⟨i', h1, h2⟩ := hx'
        exact ⟨i', by rw [← HO.out]; unfold nxt; rw [List.head?_eq_getElem?]; exact h1, h2.symm⟩
      subst ho
      have Q := Lib.hid (And.intro q1 (And.intro q2 q3))
      clear hx' q1 q2 q3
      gi_wp2
      refine to_body hl' hr' ?_
      intro W' hW' hr2
      obtain ⟨q1, q2, q3⟩ := Q.out
      replace q1 := Below.trans q1 (hW'.mono (by omega : w.heap.size ≤ w2.heap.size))
      replace q2 := q2.below hW' (by omega)
      replace q3 := q3.below hW' (by omega)
      have r0 := q2.cell 0
      have r1 := q3.cell 0
      have z0 := q2.frozen 0
      have z1 := q3.frozen 0
      simp at r0 r1
      have Q2 := Lib.hid (And.intro q1 (And.intro q2 q3))
      clear q1 q2 q3
      gi_wp2
      obtain ⟨q1, q2, q3⟩ := Q2.out
      refine ⟨((Keep.refl _ _ _).setCell _ _ (.inl (by show w.heap.size + 1 < _; omega)) (.inl ?_)).setCell _ _ (.inl (by show w.heap.size + 1 + 1 < _; omega)) (.inl ?_), rfl, rfl, (q1.setCell (p := ⟨w.heap.size + 1, 0, none⟩) (by show w.heap.size ≤ w.heap.size + 1; omega) _).setCell (p := ⟨w.heap.size + 1 + 1, 0, none⟩) (by show w.heap.size ≤ w.heap.size + 1 + 1; omega) _, (q2.set 0 _).other _ _ (by show w.heap.size + 1 ≠ w.heap.size + 1 + 1; omega), (q3.other _ _ (by show w.heap.size + 1 + 1 ≠ w.heap.size + 1; omega)).set 0 _⟩
      all_goals
        have htz := H.out.2.1.tz
        rintro (h | h | h | h | ⟨ad, rfl, hn, h⟩)
        · first | change w.heap.size + 1 = _ at h | change w.heap.size + 1 + 1 = _ at h
          omega
        · first | change w.heap.size + 1 = _ at h | change w.heap.size + 1 + 1 = _ at h
          omega
        · first | change w.heap.size + 1 = _ at h | change w.heap.size + 1 + 1 = _ at h
          omega
        · first | change w.heap.size + 1 = _ at h | change w.heap.size + 1 + 1 = _ at h
          omega
        · obtain ⟨ad', e, hb, _⟩ := H.out.1.rd hn
          cases e
          first | change w.heap.size + 1 = _ at h | change w.heap.size + 1 + 1 = _ at h
          omega
    case hdone =>
      rintro K W hK ⟨h0, q1, q2, q3⟩ hk
      have hn : o = none := by
        rw [← HO.out]; unfold nxt
        rw [List.head?_eq_none_iff]
        simpa [intXs] using h0
      subst hn
      have r0 := q2.cell 0
      have r1 := q3.cell 0
      have z0 := q2.frozen 0
      have z1 := q3.frozen 0
      simp at r0 r1
      have Q := Lib.hid (And.intro q1 (And.intro q2 (And.intro q3 (And.intro hk hK))))
      clear q1 q2 q3 hk
      go_wp2
      go_step3
      go_wp2
      rw [Exit.noGoto_ret]
      obtain ⟨q1, q2, q3, hk, hK⟩ := Q.out
      have F0 := ((q2.set 0 (.int .i64 0)).other ⟨w.heap.size + 1 + 1, 0, none⟩ (.bool false) (by show w.heap.size + 1 ≠ w.heap.size + 1 + 1; omega)).putObj K (.deferred none) (by omega)
      have F1 := ((q3.other ⟨w.heap.size + 1, 0, none⟩ (.int .i64 0) (by show w.heap.size + 1 + 1 ≠ w.heap.size + 1; omega)).set 0 (.bool false)).putObj K (.deferred none) (by omega)
      have e0 := F0.cell 0
      have e1 := F1.cell 0
      simp at e0 e1
      refine leave_mark (v := .tuple #[.int .i64 0, .bool false]) ?_ ?_ ⟨rfl, ?_⟩
      · rw [Below.heap_setCell _ _ _ _ (by show K ≠ w.heap.size + 1 + 1; omega), Below.heap_setCell _ _ _ _ (by show K ≠ w.heap.size + 1; omega)]
        exact hk
      · simp [results, Tryd.results30, go_sem, e0, e1]
      · exact Below.trans (Below.setCell (p := ⟨w.heap.size + 1 + 1, 0, none⟩) (Below.setCell (p := ⟨w.heap.size + 1, 0, none⟩) q1 (by show w.heap.size ≤ w.heap.size + 1; omega) _) (by show w.heap.size ≤ w.heap.size + 1 + 1; omega) _) (below_putObj _ K w.heap.size _ (by omega))
    case hstop =>
      rintro K c' k W hK hk2 ⟨rfl, rfl, q1, q2, q3⟩ hk
      have Q := Lib.hid (And.intro q1 (And.intro q2 (And.intro q3 (And.intro hk hK))))
      clear q1 q2 q3 hk
      go_wp2
      rw [Exit.noGoto_ret]
      obtain ⟨q1, q2, q3, hk, hK⟩ := Q.out
      have F0 := q2.putObj K (.deferred none) (by omega)
      have F1 := q3.putObj K (.deferred none) (by omega)
      have e0 := F0.cell 0
      have e1 := F1.cell 0
      simp at e0 e1
      refine leave_mark (v := .tuple #[.int .i64 (optI o), .bool o.isSome]) hk ?_ ⟨rfl, Below.trans q1 (below_putObj _ K w.heap.size _ (by omega))⟩
      simp [results, Tryd.results30, go_sem, e0, e1]

set_option maxHeartbeats 1000000 in
theorem next_wrong (N : Int) (A : Option Addr) (n c : Nat) (ws : List Nat) (f : Int) (on : Bool) (hr : rightB N ws = false) (w : World) (h : Bt w A n ws) :
    Calls Tryd.prog 30 #[.agg #[.int .i64 N, .slice A n c], .int .i64 f, .bool on] w fun e w' => e = .returned (.tuple #[.int .i64 0, .bool false]) ∧ Ext w w' := by
  have RR := Lib.hid (fun W (hW : Ext w W) => hr ▸ right_any N A n c ws W (h.ext hW))
  have E3 := ext3 w (.cells #[.int .i64 N, .slice A n c] 24) (.cells #[.int .i64 0] 3) (.cells #[.bool false] 4)
  have H := Lib.hid E3
  clear h hr E3
  refine calls_of_marks Tryd.func30 rfl ?_
  simp only [Tryd.ntmps30, List.size_toArray, List.length_cons, List.length_nil, Nat.reduceAdd, Nat.reduceSub, Array.replicate_succ, Array.replicate_zero, List.push_toArray, List.append_toArray, List.nil_append, List.cons_append]
  go_wp2
  refine wp_scope_jumps 0 (fun a' w1 => a' = { tmps := #[.agg #[.int .i64 N, .slice A n c], .int .i64 f, .bool on, .pointer (some ⟨w.heap.size, 0, none⟩), undef, undef, .pointer (some ⟨w.heap.size + 1, 0, none⟩), .pointer (some ⟨w.heap.size + 1 + 1, 0, none⟩), undef, .agg #[.int .i64 N, .slice A n c], .bool false, .bool true, undef, undef, undef, undef, undef, undef, undef], defers := [] } ∧ Ext (((w.alloc (.cells #[.int .i64 N, .slice A n c] 24)).alloc (.cells #[.int .i64 0] 3)).alloc (.cells #[.bool false] 4)) w1) (fun _ _ => 0) rfl ?_ ?_
  · go_wp2_with (go_at_call 15; refine (RR.out _ H.out).mono ?_; rintro e w1 ⟨rfl, h1⟩)
    go_step3
    exact ⟨rfl, rfl, h1⟩
  · rintro a' w1 ⟨rfl, h1⟩
    have R0 : Blk w1 (w.heap.size + 1) #[.int .i64 0] 3 := by
      have := ((Blk.new (w.alloc (.cells #[.int .i64 N, .slice A n c] 24)) #[.int .i64 0] 3).alloc (.cells #[.bool false] 4)).ext h1
      rwa [World.size_alloc] at this
    have R1 : Blk w1 (w.heap.size + 1 + 1) #[.bool false] 4 := at_new3 h1
    have r0 := R0.cell 0
    have r1 := R1.cell 0
    have z0 := R0.frozen 0
    have z1 := R1.frozen 0
    simp at r0 r1
    have Q := Lib.hid (And.intro (Ext.trans H.out h1) (And.intro R0 R1))
    clear h1 R0 R1
    go_wp2
    obtain ⟨q1, q2, q3⟩ := Q.out
    have F0 := ((q2.set 0 (.int .i64 0)).other ⟨w.heap.size + 1 + 1, 0, none⟩ (.bool false) (by show w.heap.size + 1 ≠ w.heap.size + 1 + 1; omega))
    have F1 := ((q3.other ⟨w.heap.size + 1, 0, none⟩ (.int .i64 0) (by show w.heap.size + 1 + 1 ≠ w.heap.size + 1; omega)).set 0 (.bool false))
    have hE := Below.setCell (p := ⟨w.heap.size + 1 + 1, 0, none⟩) (Below.setCell (p := ⟨w.heap.size + 1, 0, none⟩) q1 (by show w.heap.size ≤ w.heap.size + 1; omega) (.int .i64 0)) (by show w.heap.size ≤ w.heap.size + 1 + 1; omega) (.bool false)
    have e0 := F0.cell 0
    have e1 := F1.cell 0
    simp at e0 e1
    simp only [Exit.jump]
    refine leave_marks (S := w.heap.size + 3) (Ks := []) (Marks.nil _ _) (fun W' hW' => ⟨.tuple #[.int .i64 0, .bool false], ?_, rfl, Below.trans hE (hW'.mono (by omega))⟩)
    have b0 := (hW'.cell (p := ⟨w.heap.size + 1, 0, none⟩) (by show w.heap.size + 1 < _; omega)).trans e0
    have b1 := (hW'.cell (p := ⟨w.heap.size + 1 + 1, 0, none⟩) (by show w.heap.size + 1 + 1 < _; omega)).trans e1
    simp [results, Tryd.results30, go_sem, b0, b1]
end
end Go.Proofs.YtichgkeglgagfaaDoor
