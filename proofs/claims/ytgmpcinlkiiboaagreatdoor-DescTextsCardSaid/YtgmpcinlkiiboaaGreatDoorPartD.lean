/- desc: isPart. -/
import Derived.Test.YtgmpcinlkiiboaaGreatDoorRisP
namespace Go.Proofs.YtgmpcinlkiiboaaGreatDoor
open Go.RowKit Go
def partB (most size : Int) (l : List Int) : Bool := decide (0 ≤ size) && decide (size ≤ most) && decide (size % 4 = 0) && risB l size
theorem right_parts (d : DescR) : rightB d = (partB 1024 d.size d.ptrs && partB 256 d.elem d.eptrs) := by
  rw [Bool.eq_iff_iff]; simp [rightB, partB]
  constructor
  · rintro ⟨⟨⟨⟨⟨⟨⟨a, b⟩, c⟩, d⟩, e⟩, f⟩, g⟩, h⟩; exact ⟨⟨⟨⟨a, b⟩, c⟩, g⟩, ⟨⟨⟨d, e⟩, f⟩, h⟩⟩
  · rintro ⟨⟨⟨⟨a, b⟩, c⟩, g⟩, ⟨⟨⟨d, e⟩, f⟩, h⟩⟩; exact ⟨⟨⟨⟨⟨⟨⟨a, b⟩, c⟩, d⟩, e⟩, f⟩, g⟩, h⟩
/-- what the k-th place must be at least -/
def leastL (l : List Int) : Nat → Int
  | 0 => 0
  | k + 1 => l.getD k 0 + 4
theorem least_prev (l : List Int) (k : Nat) (h : 0 < k → prevL l k % 4 = 0) (x : Int) (h4 : x % 4 = 0) : (prevL l k < x ∧ 0 ≤ x) → leastL l k ≤ x := by
  cases k with
  | zero => simp [leastL]
  | succ k => simp only [prevL, leastL] at *; have := h (by omega); omega
theorem prev_least (l : List Int) (k : Nat) (h : 0 < k → 0 ≤ prevL l k) (x : Int) : leastL l k ≤ x → prevL l k < x ∧ 0 ≤ x := by
  cases k with
  | zero => simp only [leastL, prevL]; omega
  | succ k => simp only [prevL, leastL] at *; have := h (by omega); omega
section
set_option maxHeartbeats 4000000 in
set_option maxRecDepth 100000 in
theorem isPart_is (A : Option Addr) (n c : Nat) (l : List Int) (most size : Int) (hn : n ≤ 1000000) (hmost : most ≤ 2000) (w : World) (h : Il w A n l) :
    Calls Tryz.prog 50 #[.int .i64 most, .int .i64 size, .slice A n c] w fun e w' => e = .returned (.bool (partB most size l)) ∧ Ext w w' := by
  have H := Lib.hid h
  clear h
  by_cases h0 : size < 0
  · have HN := Lib.hid (show false = partB most size l by unfold partB; rw [show decide (0 ≤ size) = false from decide_eq_false (by omega)]; rfl)
    have d0 : decide (size < 0) = true := decide_eq_true h0
    go_enter Tryz.func50, Tryz.ntmps50
    go_wp2
    go_ret
    exact ⟨rb HN.out, Ext.refl _⟩
  obtain ⟨S, rfl⟩ : ∃ y : Nat, size = y := ⟨size.toNat, by omega⟩
  have h0' : (0 : Int) ≤ S := by omega
  by_cases h1 : most < (S : Int)
  · have HN := Lib.hid (show false = partB most S l by unfold partB; rw [show decide ((S : Int) ≤ most) = false from decide_eq_false (by omega)]; simp)
    have d0 : decide (most < (S : Int)) = true := decide_eq_true h1
    go_enter Tryz.func50, Tryz.ntmps50
    go_wp2
    go_ret
    exact ⟨rb HN.out, Ext.refl _⟩
  have h1' : (S : Int) ≤ most := by omega
  have d1 : decide (most < (S : Int)) = false := decide_eq_false h1
  have hS : (S : Int) ≤ 2000 := by omega
  by_cases h2 : (S : Int) % 4 = 0
  · have hb1 : ((S : Int) % 4 != 0) = false := by simp [h2]
    have hb2 : ((S : Int).tmod 4 != 0) = false := by rw [Int.tmod_eq_emod_of_nonneg h0']; exact hb1
    have HP := Lib.hid (show partB most S l = risB l S by unfold partB; simp [h1', h2])
    clear h2
    go_enter Tryz.func50, Tryz.ntmps50
    go_wp2
    go_loopg [7, 9, 24] n (fun m u v i wr => ∃ k : Nat, k + m = n ∧ i = .int .i64 k ∧ u = .int .i64 (leastL l k) ∧ (0 < k → prevL l k % 4 = 0 ∧ 0 ≤ prevL l k ∧ prevL l k < 2000) ∧ risB l S = risF S (prevL l k) (l.drop k) ∧ Ext w wr)
    case atStart => exact ⟨0, by omega, rfl, rfl, fun h => absurd h (by decide), rfl, Ext.refl _⟩
    case round =>
      obtain ⟨k, hk, rfl, rfl, hp, ht, hE⟩ := hrel
      by_cases hlt : k < n
      · obtain ⟨ad, rfl, hb, hcell⟩ := (H.out.ext hE).at_ hlt
        have ck := hcell k hlt
        have h5 : (k : Int) < n := by omega
        have h6 : (k : Int) + 1 ≤ 1000000 := by omega
        rw [ris_step l S k (by rw [H.out.1]; exact hlt)] at ht
        have a1 := least_prev l k (fun h => (hp h).1) (l.getD k 0)
        have a2 := prev_least l k (fun h => (hp h).2.1) (l.getD k 0)
        have a3 : -4 ≤ leastL l k ∧ leastL l k ≤ 2004 := by
          cases k with
          | zero => simp [leastL]
          | succ k => have := hp (by omega); simp only [prevL] at this; simp only [leastL]; omega
        have hpn : prevL l (k + 1) = l.getD k 0 := rfl
        have hln : leastL l (k + 1) = l.getD k 0 + 4 := rfl
        have HE := Lib.hid (And.intro hE (And.intro hk (And.intro hpn hln)))
        clear hE hcell hk hp hpn hln
        generalize l.getD k 0 = x at *
        generalize leastL l k = y at *
        by_cases c1 : x < y
        · have d2 : decide (x < y) = true := decide_eq_true c1
          have HN := Lib.hid (show false = partB most S l by
            rw [HP.out, ht]
            rcases Classical.em (x % 4 = 0) with q | q
            · have : ¬ (prevL l k < x ∧ 0 ≤ x) := fun h => by have := a1 q h; omega
              rcases Classical.em (0 ≤ x) with r | r
              · rw [show decide (prevL l k < x) = false from decide_eq_false (fun h => this ⟨h, r⟩)]; simp
              · rw [show decide (0 ≤ x) = false from decide_eq_false r]; simp
            · rw [show decide (x % 4 = 0) = false from decide_eq_false q]; simp)
          clear ht a1 a2
          go_wp2
          go_ret
          exact ⟨rb HN.out, HE.out.1⟩
        · have d2 : decide (x < y) = false := decide_eq_false c1
          obtain ⟨b1, b2⟩ := a2 (by omega)
          clear a1 a2
          by_cases c2 : (S : Int) ≤ x
          · have d3 : decide ((S : Int) ≤ x) = true := decide_eq_true c2
            have HN := Lib.hid (show false = partB most S l by rw [HP.out, ht, show decide (x < (S : Int)) = false from decide_eq_false (by omega)]; simp)
            clear ht b1
            go_wp2
            go_ret
            exact ⟨rb HN.out, HE.out.1⟩
          · have d3 : decide ((S : Int) ≤ x) = false := decide_eq_false c2
            obtain ⟨X, rfl⟩ : ∃ z : Nat, x = z := ⟨x.toNat, by omega⟩
            by_cases c3 : (X : Int) % 4 = 0
            · have e1 : ((X : Int) % 4 != 0) = false := by simp [c3]
              have e2 : ((X : Int).tmod 4 != 0) = false := by rw [Int.tmod_eq_emod_of_nonneg b2]; exact e1
              have HN := Lib.hid (show risB l S = risF S (prevL l (k + 1)) (l.drop (k + 1)) by rw [ht, show decide ((X : Int) < (S : Int)) = true from decide_eq_true (by omega), show decide (prevL l k < X) = true from decide_eq_true b1, show decide (0 ≤ (X : Int)) = true from decide_eq_true b2, c3]; rfl)
              have HC := Lib.hid c3
              clear ht b1 c3
              have hX : (X : Int) ≤ 2000 := by omega
              go_wp2
              go_roundg (gk - 1)
              case measure => have := HE.out.2.1; omega
              case rel => exact ⟨k + 1, by have := HE.out.2.1; omega, by go_num, by rw [HE.out.2.2.2], fun _ => by rw [HE.out.2.2.1]; exact ⟨HC.out, by omega, by omega⟩, HN.out, HE.out.1⟩
            · have e1 : ((X : Int) % 4 != 0) = true := by simpa using c3
              have e2 : ((X : Int).tmod 4 != 0) = true := by rw [Int.tmod_eq_emod_of_nonneg b2]; exact e1
              have HN := Lib.hid (show false = partB most S l by rw [HP.out, ht, show decide ((X : Int) % 4 = 0) = false from decide_eq_false c3]; simp)
              clear ht b1 c3
              go_wp2
              go_ret
              exact ⟨rb HN.out, HE.out.1⟩
      · obtain rfl : k = n := by omega
        have h5 : ¬ (k : Int) < k := by omega
        rw [ris_end l S k (by rw [H.out.1]; exact Nat.le_refl _)] at ht
        have HN := Lib.hid (show true = partB most S l by rw [HP.out, ht])
        have HE := Lib.hid hE
        clear hE ht hk hp
        go_wp2
        go_ret
        exact ⟨rb HN.out, HE.out⟩
  · have hb1 : ((S : Int) % 4 != 0) = true := by simpa using h2
    have hb2 : ((S : Int).tmod 4 != 0) = true := by rw [Int.tmod_eq_emod_of_nonneg h0']; exact hb1
    have HN := Lib.hid (show false = partB most S l by unfold partB; rw [show decide ((S : Int) % 4 = 0) = false from decide_eq_false h2]; simp)
    clear h2
    go_enter Tryz.func50, Tryz.ntmps50
    go_wp2
    go_ret
    exact ⟨rb HN.out, Ext.refl _⟩
set_option maxHeartbeats 4000000 in
set_option maxRecDepth 100000 in
theorem dright_is (A B : Option Addr) (n m c c' : Nat) (s t : Int) (l r : List Int) (hn : n ≤ 1000000) (hm : m ≤ 1000000) (w : World) (h : Il w A n l) (h' : Il w B m r) :
    Calls Tryz.prog 29 #[.agg #[.int .i64 s, .slice A n c, .int .i64 t, .slice B m c']] w fun e w' => e = .returned (.bool (rightB ⟨s, l, t, r⟩)) ∧ Ext w w' := by
  have E1 := ext1 w (.cells #[.int .i64 s, .slice A n c, .int .i64 t, .slice B m c'] 24)
  have R1 := Lib.hid (fun W (hW : Ext (w.alloc (.cells #[.int .i64 s, .slice A n c, .int .i64 t, .slice B m c'] 24)) W) => isPart_is A n c l 1024 s hn (by omega) W (h.ext (Ext.trans E1 hW)))
  have R2 := Lib.hid (fun W (hW : Ext (w.alloc (.cells #[.int .i64 s, .slice A n c, .int .i64 t, .slice B m c'] 24)) W) => isPart_is B m c' r 256 t hm (by omega) W (h'.ext (Ext.trans E1 hW)))
  have HE := Lib.hid E1
  have HR := Lib.hid (right_parts ⟨s, l, t, r⟩)
  clear h h' E1
  cases q1 : partB 1024 s l
  · rw [q1] at R1
    have HN := Lib.hid (show false = rightB ⟨s, l, t, r⟩ by rw [HR.out]; simp [q1])
    clear q1
    go_enter Tryz.func29, Tryz.ntmps29
    go_wp2_with (first | (go_at_call 50; with_reducible refine (R1.out _ (Ext.refl _)).mono ?_; rintro e w1 ⟨rfl, k1⟩; have p2 := (at_new k1).cell 2; have p3 := (at_new k1).cell 3; simp at p2 p3))
    go_ret
    exact ⟨rb HN.out, Ext.trans HE.out k1⟩
  · rw [q1] at R1
    cases q2 : partB 256 t r
    · rw [q2] at R2
      have HN := Lib.hid (show false = rightB ⟨s, l, t, r⟩ by rw [HR.out]; simp [q2])
      clear q1 q2
      go_enter Tryz.func29, Tryz.ntmps29
      go_wp2_with (first | (go_at_call 50; with_reducible refine (R1.out _ (Ext.refl _)).mono ?_; rintro e w1 ⟨rfl, k1⟩; have p2 := (at_new k1).cell 2; have p3 := (at_new k1).cell 3; simp at p2 p3) | (go_at_call 50; with_reducible refine (R2.out _ k1).mono ?_; rintro e w2 ⟨rfl, k2⟩))
      go_ret
      exact ⟨rb HN.out, Ext.trans HE.out (Ext.trans k1 k2)⟩
    · rw [q2] at R2
      have HN := Lib.hid (show true = rightB ⟨s, l, t, r⟩ by rw [HR.out]; simp [q1, q2])
      clear q1 q2
      go_enter Tryz.func29, Tryz.ntmps29
      go_wp2_with (first | (go_at_call 50; with_reducible refine (R1.out _ (Ext.refl _)).mono ?_; rintro e w1 ⟨rfl, k1⟩; have p2 := (at_new k1).cell 2; have p3 := (at_new k1).cell 3; simp at p2 p3) | (go_at_call 50; with_reducible refine (R2.out _ k1).mono ?_; rintro e w2 ⟨rfl, k2⟩))
      go_ret
      exact ⟨rb HN.out, Ext.trans HE.out (Ext.trans k1 k2)⟩
end
end Go.Proofs.YtgmpcinlkiiboaaGreatDoor
