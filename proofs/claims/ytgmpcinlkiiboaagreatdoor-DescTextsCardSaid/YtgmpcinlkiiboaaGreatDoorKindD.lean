/- desc: isField, inFirst, kind. desc: Kind. -/
import Derived.Test.YtgmpcinlkiiboaaGreatDoorSlotsD
namespace Go.Proofs.YtgmpcinlkiiboaaGreatDoor
open Go.RowKit Go
attribute [local go_sem] Oper.semAt_some
def fieldB (s t y x : Int) : Bool := decide (0 ≤ x) && decide (x < s + y * t) && decide (x % 4 = 0)
/-- A field's place, in the first element. -/
def placeF (s t x : Int) : Int := if x < s then x else s + (x - s) % t
def kv (p : Int) (L : List Int) : Int := if p ∈ L then 2 else 1
theorem kind_first {d : DescR} (h : RightP d) (y x : Int) (hf : fieldB d.size d.elem y x = true) : kindP d y x = kv (placeF d.size d.elem x) (slotsF d 1) := by
  simp only [fieldB, Bool.and_eq_true, decide_eq_true_eq] at hf
  unfold kindP kv placeF
  rw [if_neg (by omega)]
  have e : slotsF d 1 = d.ptrs ++ d.eptrs.map fun y => d.size + y := by
    unfold slotsF; simp
  rw [e]
  by_cases hx : x < d.size
  · rw [if_pos hx]
    have : (x ∈ d.ptrs ++ d.eptrs.map fun y => d.size + y) ↔ ((x < d.size ∧ x ∈ d.ptrs) ∨ (d.size ≤ x ∧ (x - d.size) % d.elem ∈ d.eptrs)) := by
      rw [List.mem_append, List.mem_map]
      constructor
      · rintro (h1 | ⟨z, h1, h2⟩)
        · exact .inl ⟨hx, h1⟩
        · have := h.qq z h1; omega
      · rintro (h1 | h1)
        · exact .inl h1.2
        · omega
    by_cases hm : (x < d.size ∧ x ∈ d.ptrs) ∨ (d.size ≤ x ∧ (x - d.size) % d.elem ∈ d.eptrs)
    · rw [if_pos hm, if_pos (this.2 hm)]
    · rw [if_neg hm, if_neg (fun h => hm (this.1 h))]
  · rw [if_neg hx]
    have : (d.size + (x - d.size) % d.elem ∈ d.ptrs ++ d.eptrs.map fun y => d.size + y) ↔ ((x < d.size ∧ x ∈ d.ptrs) ∨ (d.size ≤ x ∧ (x - d.size) % d.elem ∈ d.eptrs)) := by
      rw [List.mem_append, List.mem_map]
      constructor
      · rintro (h1 | ⟨z, h1, h2⟩)
        · have := h.pp _ h1
          have h0 : d.elem ≠ 0 := fun h0 => by rw [h0] at hf; omega
          have := Int.emod_nonneg (x - d.size) h0
          omega
        · obtain rfl : z = (x - d.size) % d.elem := by omega
          exact .inr ⟨by omega, h1⟩
      · rintro (h1 | h1)
        · omega
        · exact .inr ⟨_, h1.2, rfl⟩
    by_cases hm : (x < d.size ∧ x ∈ d.ptrs) ∨ (d.size ≤ x ∧ (x - d.size) % d.elem ∈ d.eptrs)
    · rw [if_pos hm, if_pos (this.2 hm)]
    · rw [if_neg hm, if_neg (fun h => hm (this.1 h))]
section
theorem isField_is (A B : Option Addr) (n m c c' : Nat) (s t y z x : Int) (h0 : 0 ≤ s ∧ s ≤ 1024) (h1 : 0 ≤ t ∧ t ≤ 256) (h2 : 0 ≤ y ∧ y ≤ 131072) (w : World) :
    Calls Tryz.prog 44 #[.agg #[.int .i64 s, .slice A n c, .int .i64 t, .slice B m c', .int .i64 y, .int .i64 z], .int .i64 x] w fun e w' => e = .returned (.bool (fieldB s t y x)) ∧ Ext w w' := by
  have E := Lib.hid (fun W => end_is A B n m c c' s t y z h0 h1 h2 W)
  have HF := Lib.hid (show fieldB s t y x = (decide (0 ≤ x) && decide (x < s + y * t) && decide (x % 4 = 0)) from rfl)
  generalize s + y * t = e at *
  by_cases q1 : 0 ≤ x
  · obtain ⟨X, rfl⟩ : ∃ k : Nat, x = k := ⟨x.toNat, by omega⟩
    by_cases q2 : (X : Int) < e
    · have d2 : decide ((X : Int) < e) = true := decide_eq_true q2
      by_cases q3 : (X : Int) % 4 = 0
      · have hb1 : ((X : Int) % 4 == 0) = true := by simp [q3]
        have hb2 : ((X : Int).tmod 4 == 0) = true := by rw [Int.tmod_eq_emod_of_nonneg q1]; exact hb1
        have HN := Lib.hid (show true = fieldB s t y X by rw [HF.out]; simp [q2, q3])
        clear q3
        go_enter Tryz.func44, Tryz.ntmps44
        go_wp2_with (go_at_call 40; (with_reducible refine (E.out _).mono ?_); rintro e w1 ⟨rfl, k1⟩)
        go_ret
        exact ⟨rb HN.out, Ext.trans (ext1 _ _) k1⟩
      · have hb1 : ((X : Int) % 4 == 0) = false := by simpa using q3
        have hb2 : ((X : Int).tmod 4 == 0) = false := by rw [Int.tmod_eq_emod_of_nonneg q1]; exact hb1
        have HN := Lib.hid (show false = fieldB s t y X by rw [HF.out, show decide ((X : Int) % 4 = 0) = false from decide_eq_false q3]; simp)
        clear q3
        go_enter Tryz.func44, Tryz.ntmps44
        go_wp2_with (go_at_call 40; (with_reducible refine (E.out _).mono ?_); rintro e w1 ⟨rfl, k1⟩)
        go_ret
        exact ⟨rb HN.out, Ext.trans (ext1 _ _) k1⟩
    · have d2 : decide ((X : Int) < e) = false := decide_eq_false q2
      have HN := Lib.hid (show false = fieldB s t y X by rw [HF.out, d2]; simp)
      go_enter Tryz.func44, Tryz.ntmps44
      go_wp2_with (go_at_call 40; (with_reducible refine (E.out _).mono ?_); rintro e w1 ⟨rfl, k1⟩)
      go_ret
      exact ⟨rb HN.out, Ext.trans (ext1 _ _) k1⟩
  · have HN := Lib.hid (show false = fieldB s t y x by rw [HF.out, show decide (0 ≤ x) = false from decide_eq_false q1]; rfl)
    go_enter Tryz.func44, Tryz.ntmps44
    go_wp2
    go_ret
    exact ⟨rb HN.out, ext1 _ _⟩
set_option maxHeartbeats 1000000 in
theorem inFirst_is (A B : Option Addr) (n m c c' : Nat) (s t y z x : Int) (h0 : 0 ≤ s ∧ s ≤ 1024) (h1 : 0 ≤ t ∧ t ≤ 256) (h2 : 0 ≤ x ∧ x ≤ 131072) (h3 : s ≤ x → t ≠ 0) (w : World) :
    Calls Tryz.prog 45 #[.agg #[.int .i64 s, .slice A n c, .int .i64 t, .slice B m c', .int .i64 y, .int .i64 z], .int .i64 x] w fun e w' => e = .returned (.int .i64 (placeF s t x)) ∧ Ext w w' := by
  by_cases q : x < s
  · have HN := Lib.hid (show x = placeF s t x by rw [placeF, if_pos q])
    go_enter Tryz.func45, Tryz.ntmps45
    go_wp2
    go_ret
    exact ⟨ri HN.out, ext1 _ _⟩
  · have HN := Lib.hid (show s + (x - s) % t = placeF s t x by rw [placeF, if_neg q])
    have ht := h3 (by omega)
    have t0 : 0 < t := by omega
    obtain ⟨X, hX⟩ : ∃ k : Nat, x - s = k := ⟨(x - s).toNat, by omega⟩
    have r0 := Int.emod_nonneg (x - s) ht
    have r1 := Int.emod_lt_of_pos (x - s) t0
    have hr : (x - s).tmod t = (x - s) % t := Int.tmod_eq_emod_of_nonneg (by omega)
    have hx := fun (o : From (w.alloc (.cells #[.int .i64 s, .slice A n c, .int .i64 t, .slice B m c', .int .i64 y, .int .i64 z] 52))) p h => From.cell o p h
    go_enter Tryz.func45, Tryz.ntmps45
    go_wp2
    refine wp_region_on (by kernel_rfl) (by kernel_rfl) ?_
    repeat (go_big_quiet_step (fail))
    refine wpQuiet_nil ?_
    intro W hW
    go_wp2
    go_ret
    exact ⟨ri (by rw [← HN.out, hX]; rw [hX] at r0 r1; generalize (X : Int) % t = q at *; unfold wrap64; omega), Ext.trans (ext1 _ _) hW⟩
/-- What has been found by the k-th. -/
structure Seen (L : List Int) (p : Int) (k : Nat) (W0 W : World) : Prop where
  kind : Blk W W0.heap.size #[.int .i64 1] 3
  place : Blk W (W0.heap.size + 1) #[.int .i64 p] 3
  lt : ∀ j, j < k → L.getD j 0 < p
  ext : Ext W0 W
structure Found (L : List Int) (p : Int) (W0 W : World) : Prop where
  kind : Blk W W0.heap.size #[.int .i64 (kv p L)] 3
  ext : Ext W0 W
theorem getD_mem {L : List Int} {k : Nat} (hk : k < L.length) : L.getD k 0 ∈ L := by rw [List.getD_eq_getElem?_getD, List.getElem?_eq_getElem hk]; exact List.getElem_mem _
theorem mem_getD {L : List Int} {x : Int} (h : x ∈ L) : ∃ j, j < L.length ∧ L.getD j 0 = x := by
  obtain ⟨j, hj, rfl⟩ := List.getElem_of_mem h
  exact ⟨j, hj, by rw [List.getD_eq_getElem?_getD, List.getElem?_eq_getElem hj]; rfl⟩
theorem sorted_getD {L : List Int} (h : L.Pairwise (· < ·)) {i j : Nat} (hij : i < j) (hj : j < L.length) : L.getD i 0 < L.getD j 0 := by
  have := List.pairwise_iff_getElem.1 h i j (by omega) hj hij
  rw [List.getD_eq_getElem?_getD, List.getD_eq_getElem?_getD, List.getElem?_eq_getElem hj, List.getElem?_eq_getElem (by omega : i < L.length)]
  exact this
theorem kv_yes {L : List Int} {p : Int} (h : p ∈ L) : kv p L = 2 := if_pos h
theorem kv_no {L : List Int} {p : Int} (h : p ∉ L) : kv p L = 1 := if_neg h
theorem kv_past {L : List Int} (hp : L.Pairwise (· < ·)) {p : Int} {k : Nat} (hlt : ∀ j, j < k → L.getD j 0 < p) (hk : k < L.length) (h : p < L.getD k 0) : kv p L = 1 := kv_no fun hm => by
  obtain ⟨j, hj, e⟩ := mem_getD hm
  rcases Nat.lt_or_ge j k with q | q
  · have := hlt j q; omega
  · rcases Nat.lt_or_ge k j with q' | q'
    · have := sorted_getD hp q' hj; omega
    · obtain rfl : j = k := by omega
      omega
theorem kv_end {L : List Int} {p : Int} (hlt : ∀ j, j < L.length → L.getD j 0 < p) : kv p L = 1 := kv_no fun hm => by
  obtain ⟨j, hj, e⟩ := mem_getD hm
  have := hlt j hj; omega
set_option maxHeartbeats 4000000 in
theorem kindS_is (A B : Option Addr) (n m c c' : Nat) (s t y z x : Int) (l r : List Int) (hn : n ≤ 1000000) (hm : m ≤ 1000000) (hR : RightP ⟨s, l, t, r⟩) (h2 : 0 ≤ y ∧ y ≤ 131072) (hb : s + y * t ≤ 131072) (w : World) (h : Il w A n l) (h' : Il w B m r) :
    Calls Tryz.prog 26 #[.agg #[.int .i64 s, .slice A n c, .int .i64 t, .slice B m c', .int .i64 y, .int .i64 z], .int .i64 x] w fun e w' => e = .returned (.int .i64 (kindP ⟨s, l, t, r⟩ y x)) ∧ Ext w w' := by
  have hs : 0 ≤ s ∧ s ≤ 1024 := ⟨hR.s0, hR.s1⟩
  have ht : 0 ≤ t ∧ t ≤ 256 := ⟨hR.e0, hR.e1⟩
  have E := Lib.hid (fun W => isField_is A B n m c c' s t y z x hs ht h2 W)
  cases hf : fieldB s t y x
  · rw [hf] at E
    have HN := Lib.hid (show 0 = kindP ⟨s, l, t, r⟩ y x by
      unfold kindP
      have : ¬ (0 ≤ x ∧ x < s + y * t ∧ x % 4 = 0) := fun ⟨a, b, c⟩ => by
        have e : fieldB s t y x = true := by unfold fieldB; simp [a, b, c]
        rw [hf] at e; cases e
      rw [if_pos (by show x < 0 ∨ x % 4 ≠ 0 ∨ s + y * t ≤ x; omega)])
    clear hf h h' hR
    refine calls_of_marks Tryz.func26 rfl ?_
    simp only [Tryz.ntmps26, List.size_toArray, List.length_cons, List.length_nil, Nat.reduceAdd, Nat.reduceSub, Array.replicate_succ, Array.replicate_zero, List.push_toArray, List.append_toArray, List.nil_append, List.cons_append]
    go_wp2
    go_step3
    go_wp2_with (go_at_call 44; (with_reducible refine (E.out _).mono ?_); rintro e w1 ⟨rfl, k1⟩; have K1 := Lib.hid k1; clear k1)
    refine leave_marks (S := w.heap.size) (Ks := []) (Marks.nil _ _) (fun W' hW' => ⟨_, results_tmp rfl _ _ _, ?_⟩)
    exact ⟨ri HN.out, Below.trans (Ext.trans (ext1 _ _) K1.out) hW'⟩
  · rw [hf] at E
    have hk := kind_first hR y x hf
    have hff := hf
    simp only [fieldB, Bool.and_eq_true, decide_eq_true_eq] at hff
    have F := Lib.hid (fun W => inFirst_is A B n m c c' s t y z x hs ht ⟨hff.1.1, by omega⟩ (fun h0 e0 => by rw [e0] at hff; omega) W)
    have hlen : (slotsF ⟨s, l, t, r⟩ 1).length ≤ 1000000 := by
      have := lens_of hR
      rw [slots_len]
      simp only at this ⊢
      omega
    have hsort := (sorted_slots hR 1).1
    have IT := Lib.hid (fun (W : World) (hW : Ext w W) => ptrs_iterU A B n m c c' s t y z l r hn hm 1 (by decide) W.heap.size (W.heap.size + 1) 52 3 _ hR (h.ext (Ext.trans hW (ext2 _ (.cells #[.int .i64 s, .slice A n c, .int .i64 t, .slice B m c', .int .i64 y, .int .i64 z] 52) (.cells #[.int .i64 ((1 : Nat) : Int)] 3)))) (h'.ext (Ext.trans hW (ext2 _ _ _))) (at_old (Ext.refl _)) (at_new2 (Ext.refl _)))
    have HN := Lib.hid (And.intro hk (And.intro hlen hsort))
    have HI := Lib.hid (And.intro h h')
    clear hf h h' hR hk hlen hsort hff
    obtain ⟨p, hp⟩ : ∃ p, placeF s t x = p := ⟨_, rfl⟩
    obtain ⟨L, hL⟩ : ∃ L, slotsF ⟨s, l, t, r⟩ 1 = L := ⟨_, rfl⟩
    rw [hp] at F
    simp only [hp, hL] at HN IT
    clear hp hL
    refine calls_of_marks Tryz.func26 rfl ?_
    simp only [Tryz.ntmps26, List.size_toArray, List.length_cons, List.length_nil, Nat.reduceAdd, Nat.reduceSub, Array.replicate_succ, Array.replicate_zero, List.push_toArray, List.append_toArray, List.nil_append, List.cons_append]
    go_wp2
    go_step3
    go_wp2_with (first | (go_at_call 44; (with_reducible refine (E.out _).mono ?_); rintro e w1 ⟨rfl, k1⟩; obtain ⟨⟨p0, p1, p2, p3, p4, p5⟩, _⟩ := cells6 (at_new k1)) | (go_at_call 45; (with_reducible refine (F.out _).mono ?_); rintro e w2 ⟨rfl, k2⟩; obtain ⟨⟨p0, p1, p2, p3, p4, p5⟩, _⟩ := cells6 (at_new (Ext.trans k1 k2)); have K2 := Lib.hid (Ext.trans k1 k2); have v0 := fun o1 o2 => (cells6 (at_new (Ext.trans K2.out (ext2 w2 o1 o2)))).1.1; have v1 := fun o1 o2 => (cells6 (at_new (Ext.trans K2.out (ext2 w2 o1 o2)))).1.2.1; have v2 := fun o1 o2 => (cells6 (at_new (Ext.trans K2.out (ext2 w2 o1 o2)))).1.2.2.1; have v3 := fun o1 o2 => (cells6 (at_new (Ext.trans K2.out (ext2 w2 o1 o2)))).1.2.2.2.1; have v4 := fun o1 o2 => (cells6 (at_new (Ext.trans K2.out (ext2 w2 o1 o2)))).1.2.2.2.2.1; have v5 := fun o1 o2 => (cells6 (at_new (Ext.trans K2.out (ext2 w2 o1 o2)))).1.2.2.2.2.2; clear k1 k2 p0 p1 p2 p3 p4 p5))
    go_step3
    go_wp2_with (go_at_call 25; (with_reducible refine (pointers_mk A B n m c c' s t y z 1 _).mono ?_); rintro e w4 ⟨rfl, rfl⟩)
    clear v0 v1 v2 v3 v4 v5
    have EK : Ext w2 ((w2.alloc (.cells #[.int .i64 1] 3)).alloc (.cells #[.int .i64 p] 3)) := ext2 _ _ _
    have EW : Ext w w2 := Ext.trans (ext1 _ _) K2.out
    have bK : Blk ((w2.alloc (.cells #[.int .i64 1] 3)).alloc (.cells #[.int .i64 p] 3)) w2.heap.size #[.int .i64 1] 3 := at_old (Ext.refl _)
    have bP : Blk ((w2.alloc (.cells #[.int .i64 1] 3)).alloc (.cells #[.int .i64 p] 3)) (w2.heap.size + 1) #[.int .i64 p] 3 := at_new2 (Ext.refl _)
    have sK : ((w2.alloc (.cells #[.int .i64 1] 3)).alloc (.cells #[.int .i64 p] 3)).heap.size = w2.heap.size + 2 := by simp
    have hit := IT.out _ (Ext.trans EW EK)
    simp only [World.size_alloc] at hit
    generalize ((w2.alloc (.cells #[.int .i64 1] 3)).alloc (.cells #[.int .i64 p] 3)) = Wk at *
    have E3 : Ext Wk ((Wk.alloc (.cells #[.int .i64 s, .slice A n c, .int .i64 t, .slice B m c', .int .i64 y, .int .i64 z] 52)).alloc (.cells #[.int .i64 1] 3)) := ext2 _ _ _
    have s3 : ((Wk.alloc (.cells #[.int .i64 s, .slice A n c, .int .i64 t, .slice B m c', .int .i64 y, .int .i64 z] 52)).alloc (.cells #[.int .i64 1] 3)).heap.size = Wk.heap.size + 2 := by simp
    have hDlt : ∀ k, (k = w2.heap.size + 1 + 1 ∨ k = w2.heap.size + 1 + 1 + 1 ∨ (∃ ad, A = some ad ∧ 0 < n ∧ k = ad.block) ∨ ∃ ad, B = some ad ∧ 0 < m ∧ k = ad.block) → k < Wk.heap.size + 2 ∧ k ≠ w2.heap.size := by
      have hz := EW.size
      rintro k (rfl | rfl | ⟨ad, rfl, h0, rfl⟩ | ⟨ad, rfl, h0, rfl⟩)
      · omega
      · omega
      · obtain ⟨ad', e, hb, _⟩ := HI.out.1.at_ h0
        cases e
        have := K2.out.size
        simp only [World.size_alloc] at this
        omega
      · obtain ⟨ad', e, hb, _⟩ := HI.out.2.at_ h0
        cases e
        have := K2.out.size
        simp only [World.size_alloc] at this
        omega
    have hit' : IterU Tryz.prog _ 42 _ (intsX L) ((Wk.alloc (.cells #[.int .i64 s, .slice A n c, .int .i64 t, .slice B m c', .int .i64 y, .int .i64 z] 52)).alloc (.cells #[.int .i64 1] 3)) := hit
    clear hit
    generalize hw3 : ((Wk.alloc (.cells #[.int .i64 s, .slice A n c, .int .i64 t, .slice B m c', .int .i64 y, .int .i64 z] 52)).alloc (.cells #[.int .i64 1] 3)) = w3 at *
    clear hw3
    refine range_outerU (w0 := w3) rfl (enters_of Tryz.func42 (by kernel_rfl) rfl) hit' (fun k hk => by have := hDlt k hk; omega) (Keep.refl _ _ _) (by intro x' hx'; obtain ⟨i', _, rfl⟩ := List.mem_map.1 hx'; rfl)
      (fun k u W => (∀ b, ¬ u b) ∧ Seen L p k w2 W)
      (fun c k u W => c = .exit 0 ∧ (∀ b, ¬ u b) ∧ Found L p w2 W) ?hI ?hIx ?hIb ?hIxb (u0 := fun _ => False) ⟨fun _ h => h, bK.ext E3, bP.ext E3, fun j hj => absurd hj (by omega), Ext.trans EK E3⟩ ?hround ?hdone ?hstop
    case hI =>
      rintro k u A' B' ⟨q0, q1⟩ hb hu
      exact ⟨q0, q1.kind.below hb (by omega), q1.place.below hb (by omega), q1.lt, Below.trans q1.ext (hb.mono (by omega))⟩
    case hIx =>
      rintro c k u A' B' ⟨rfl, q0, q1⟩ hb hu
      exact ⟨rfl, q0, q1.kind.below hb (by omega), Below.trans q1.ext (hb.mono (by omega))⟩
    case hIb => rintro k u A' ⟨q0, _⟩ b hb; exact absurd hb (q0 b)
    case hIxb => rintro c k u A' ⟨_, q0, _⟩ b hb; exact absurd hb (q0 b)
    case hround =>
      rintro l' k u x' Wx hx' hl' hr' hul ⟨q0, q1⟩
      obtain ⟨i', hi', rfl⟩ : ∃ i', L[k]? = some i' ∧ x' = #[.int .i64 i'] := by
        simp only [intsX, List.getElem?_map, Option.map_eq_some_iff] at hx'
        obtain ⟨i', h1, h2⟩ := hx'
        exact ⟨i', h1, h2.symm⟩
      have hkL : k < L.length := (List.getElem?_eq_some_iff.1 hi').1
      have hg : L.getD k 0 = i' := by rw [List.getD_eq_getElem?_getD, hi']; rfl
      have Q := Lib.hid (And.intro q0 (And.intro q1 (And.intro hkL (And.intro hg (And.intro hDlt (And.intro s3 sK))))))
      clear hx' q0 q1 hkL hg hi' hDlt hit' IT s3 sK bK bP E3 EK
      gi_wp2
      refine to_bodyU hl' hul hr' ?_
      intro W' hW' hu' hof hr2
      obtain ⟨q0, q1, hkL, hg, hD, s3, sK⟩ := Q.out
      have b1 := q1.kind.below hW' (by omega)
      have b2 := q1.place.below hW' (by omega)
      have e1 : Ext w2 W' := Below.trans q1.ext (hW'.mono (by omega))
      have c1 := b1.cell 0
      have c2 := b2.cell 0
      have f1 := b1.frozen 0
      simp only [List.getElem?_toArray, List.getElem?_cons_zero] at c1 c2
      have hsort := HN.out.2.2
      have hlt := q1.lt
      have Q2 := Lib.hid (And.intro q0 (And.intro b1 (And.intro b2 (And.intro e1 (And.intro hkL (And.intro hg (And.intro hD (And.intro s3 (And.intro sK (And.intro hsort hlt))))))))))
      clear q0 q1 hkL hg hD s3 sK b1 b2 e1 hsort hlt Q hW' hu'
      by_cases g1 : i' = p
      · subst g1
        gi_wp2
        obtain ⟨q0, b1, b2, e1, hkL, hg, hD, s3, sK, hsort, hlt⟩ := Q2.out
        refine ⟨⟨by simp, fun j hj hd => Below.heap_setCell _ _ _ _ ?_⟩, u, fun b hb => .inl hb, rfl, q0, ?_, e1.setCell (p := ⟨w2.heap.size, 0, none⟩) (Nat.le_refl _) _⟩
        · show j ≠ w2.heap.size
          rcases hd with hd | ⟨hd, _⟩
          · exact (hD j hd).2
          · omega
        · have := b1.set 0 (.int .i64 2)
          simp only [List.setIfInBounds_toArray, List.set_cons_zero] at this
          rw [kv_yes (by rw [← hg]; exact getD_mem hkL)]
          exact this
      · have g1' : (i' == p) = false := by simpa using g1
        by_cases g2 : p < i'
        · have d2 : decide (p < i') = true := decide_eq_true g2
          gi_wp2
          obtain ⟨q0, b1, b2, e1, hkL, hg, hD, s3, sK, hsort, hlt⟩ := Q2.out
          refine ⟨KeepU.refl _ _ _ _, u, fun b hb => .inl hb, rfl, q0, ?_, e1⟩
          rw [kv_past hsort hlt hkL (by rw [hg]; exact g2)]
          exact b1
        · have d2 : decide (p < i') = false := decide_eq_false g2
          gi_wp2
          obtain ⟨q0, b1, b2, e1, hkL, hg, hD, s3, sK, hsort, hlt⟩ := Q2.out
          refine ⟨KeepU.refl _ _ _ _, u, fun b hb => .inl hb, q0, b1, b2, fun j hj => ?_, e1⟩
          rcases Nat.lt_or_ge j k with q | q
          · exact hlt j q
          · obtain rfl : j = k := by omega
            rw [hg]; omega
    case hdone =>
      rintro K u W hK hKu ⟨q0, q1⟩ hKd
      rw [show (intsX L).length = L.length by simp [intsX]] at q1
      have c1 := q1.kind.cell 0
      simp only [List.getElem?_toArray, List.getElem?_cons_zero] at c1
      have QQ := Lib.hid (And.intro q1 hKd)
      clear q1 hKd hit' IT
      go_wp2
      obtain ⟨q1, hKd⟩ := QQ.out
      exact leave_mark (v := .int .i64 1) hKd (by simp [results, Tryz.results26, go_sem]) ⟨ri (by rw [HN.out.1, kv_end q1.lt]), Below.trans (Ext.trans EW q1.ext) (below_putObj _ K w.heap.size _ (by have := EW.size; omega))⟩
    case hstop =>
      rintro K c k u W hK hKu hkl ⟨rfl, q0, q1⟩ hKd
      have c1 := q1.kind.cell 0
      simp only [List.getElem?_toArray, List.getElem?_cons_zero] at c1
      have QQ := Lib.hid (And.intro q1 hKd)
      clear q1 hKd hit' IT
      go_wp2
      obtain ⟨q1, hKd⟩ := QQ.out
      exact leave_mark (v := .int .i64 (kv p L)) hKd (by simp [results, Tryz.results26, go_sem]) ⟨ri HN.out.1.symm, Below.trans (Ext.trans EW q1.ext) (below_putObj _ K w.heap.size _ (by have := EW.size; omega))⟩
end
section
set_option maxHeartbeats 4000000 in
theorem dkind_is (A B : Option Addr) (n m c c' : Nat) (s t y x : Int) (l r : List Int) (hn : n ≤ 1000000) (hm : m ≤ 1000000) (w : World) (hG : G w) (h : Il w A n l) (h' : Il w B m r) :
    Calls Tryz.prog 14 #[.agg #[.int .i64 s, .slice A n c, .int .i64 t, .slice B m c'], .int .i64 y, .int .i64 x] w fun e w' => e = .returned (.tuple #[.int .i64 (kindV ⟨s, l, t, r⟩ y x), .int .i64 (bytesE ⟨s, l, t, r⟩ y)]) ∧ Ext w w' := by
  have E1 := ext1 w (.cells #[.int .i64 s, .slice A n c, .int .i64 t, .slice B m c'] 24)
  by_cases hk : bytesE ⟨s, l, t, r⟩ y = 0
  · have hrl : rightB ⟨s, l, t, r⟩ = true ∧ lenB ⟨s, l, t, r⟩ y = true := by
      unfold bytesE at hk
      split at hk
      · rename_i h; split at hk
        · rename_i h2; exact ⟨h, h2⟩
        · cases hk
      · cases hk
    have hle := lenB_le hrl.2
    have hR := right_of hrl.1
    have hbb : 8 + s + y * t ≤ 131072 := by
      have := hrl.2
      rw [lenB_lim, Bool.and_eq_true] at this
      exact of_decide_eq_true this.2
    have hV : kindV ⟨s, l, t, r⟩ y x = kindP ⟨s, l, t, r⟩ y x := by unfold kindV; rw [hrl.1, hrl.2]; rfl
    have R := Lib.hid (shaped_yes A B n m c c' s t y l r hn hm _ (hG.ext E1) (h.ext E1) (h'.ext E1) hrl.1 hrl.2)
    have C := Lib.hid (fun (z : Int) (W : World) (hW : Ext w W) => kindS_is A B n m c c' s t y z x l r hn hm hR hle (by omega) W (h.ext hW) (h'.ext hW))
    have HE := Lib.hid E1
    have HG := Lib.hid (fun W (hW : Ext w W) => hG.ext hW)
    have HN := Lib.hid (show Value.tuple #[.int .i64 (kindP ⟨s, l, t, r⟩ y x), .int .i64 0] = .tuple #[.int .i64 (kindV ⟨s, l, t, r⟩ y x), .int .i64 (bytesE ⟨s, l, t, r⟩ y)] by rw [hk, hV])
    clear h h' E1 hrl hG hR hbb hk hV
    generalize bytesB ⟨s, l, t, r⟩ y = z at *
    go_enter Tryz.func14, Tryz.ntmps14
    go_wp2_with (first | (go_at_call 23; (with_reducible refine R.out.mono ?_); rintro e w1 ⟨rfl, k1⟩; have K1 := Lib.hid (Ext.trans HE.out k1)) | (go_at_call 16; (with_reducible refine (told_new 0 .nilIface _ w1 (HG.out _ K1.out) code_0).mono ?_); rintro e w2 ⟨rfl, k2⟩; have K2 := Lib.hid (Ext.trans K1.out (Ext.trans (ext2 _ _ _) k2)); obtain ⟨⟨p0, p1, p2, p3, p4, p5⟩, _⟩ := cells6 (at_old k2)) | (go_at_call 26; (with_reducible refine (C.out z _ K2.out).mono ?_); rintro e w3 ⟨rfl, k3⟩; have K3 := Lib.hid (Ext.trans K2.out k3)))
    go_ret2
    exact ⟨ret_val HN.out, K3.out⟩
  · have R := Lib.hid (shaped_no A B n m c c' s t y _ l r hn hm _ (hG.ext E1) (h.ext E1) (h'.ext E1) rfl hk)
    have hV : kindV ⟨s, l, t, r⟩ y x = 0 := by
      unfold bytesE at hk
      unfold kindV
      split at hk
      · rename_i h; split at hk
        · exact absurd rfl hk
        · rename_i h2; rw [h]; simp [h2]
      · rename_i h; simp [h]
    have HK := Lib.hid hk
    have HN := Lib.hid (show Value.tuple #[.int .i64 0, .int .i64 (bytesE ⟨s, l, t, r⟩ y)] = .tuple #[.int .i64 (kindV ⟨s, l, t, r⟩ y x), .int .i64 (bytesE ⟨s, l, t, r⟩ y)] by rw [hV])
    have b0 : (bytesE ⟨s, l, t, r⟩ y != 0) = true := by simpa using hk
    have HE := Lib.hid E1
    have HG := Lib.hid (fun W (hW : Ext w W) => hG.ext hW)
    clear h h' E1 hk hG hV
    generalize bytesE ⟨s, l, t, r⟩ y = z at *
    go_enter Tryz.func14, Tryz.ntmps14
    go_wp2_with (first | (go_at_call 23; (with_reducible refine R.out.mono ?_); rintro e w1 ⟨⟨v, rfl, hv⟩, k1⟩; have K1 := Lib.hid (Ext.trans HE.out k1); have HV := Lib.hid hv; obtain ⟨te, pe, rfl⟩ := code_err hv HK.out; clear hv) | (go_at_call 16; (with_reducible refine (told_new z _ _ w1 (HG.out _ K1.out) HV.out).mono ?_); rintro e w2 ⟨rfl, k2⟩; have K2 := Lib.hid (Ext.trans K1.out (Ext.trans (ext2 _ _ _) k2))))
    go_ret2
    exact ⟨ret_val HN.out, K2.out⟩
end
end Go.Proofs.YtgmpcinlkiiboaaGreatDoor
