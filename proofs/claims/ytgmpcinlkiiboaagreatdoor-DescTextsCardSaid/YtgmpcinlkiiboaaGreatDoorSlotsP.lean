/- What objects of a descriptor are: bytes, what is at a place, the places of all pointers: pure. -/
import Derived.Test.YtgmpcinlkiiboaaGreatDoorText
namespace Go.Proofs.YtgmpcinlkiiboaaGreatDoor
open Go

def bytesB (d : DescR) (n : Int) : Int := (8 + d.size + n * d.elem + 7) / 8 * 8
/-- May there be an object of this length? -/
def lenB (d : DescR) (n : Int) : Bool := decide (0 ≤ n) && (decide (n ≤ 0) || !decide (d.elem = 0)) && decide (n ≤ 131072) && decide (bytesB d n ≤ 131072)
def bytesE (d : DescR) (n : Int) : Int := if rightB d then (if lenB d n then 0 else 41) else 40
def bytesV (d : DescR) (n : Int) : Int := if rightB d && lenB d n then bytesB d n else 0
/-- What is at a place of an object that may be. -/
def kindP (d : DescR) (n x : Int) : Int :=
  if x < 0 ∨ x % 4 ≠ 0 ∨ d.size + n * d.elem ≤ x then 0
  else if (x < d.size ∧ x ∈ d.ptrs) ∨ (d.size ≤ x ∧ (x - d.size) % d.elem ∈ d.eptrs) then 2 else 1
/-- The places of all pointers. -/
def slotsF (d : DescR) (n : Nat) : List Int := d.ptrs ++ (List.range n).flatMap fun (i : Nat) => d.eptrs.map fun y => d.size + (i : Int) * d.elem + y
/-- .. one by one. -/
def slotsW (d : DescR) (n : Nat) (k : Nat) : List Int := ((List.range k).map fun (j : Nat) => 4 * (j : Int)).filter fun x => kindP d n x == 2

theorem sorted_ext : ∀ (l l' : List Int), l.Pairwise (· < ·) → l'.Pairwise (· < ·) → (∀ x, x ∈ l ↔ x ∈ l') → l = l'
  | [], [], _, _, _ => rfl
  | [], y :: r, _, _, h => by have := (h y).2 (by simp); simp at this
  | x :: r, [], _, _, h => by have := (h x).1 (by simp); simp at this
  | x :: r, y :: s, h1, h2, h => by
    obtain ⟨a1, a2⟩ := List.pairwise_cons.1 h1
    obtain ⟨b1, b2⟩ := List.pairwise_cons.1 h2
    have hxy : x = y := by
      rcases List.mem_cons.1 ((h x).1 (by simp)) with e | hx
      · exact e
      · rcases List.mem_cons.1 ((h y).2 (by simp)) with e | hy
        · exact e.symm
        · have := b1 x hx; have := a1 y hy; omega
    subst hxy
    rw [sorted_ext r s a2 b2 (fun z => ⟨fun hz => by
      rcases List.mem_cons.1 ((h z).1 (by simp [hz])) with e | e
      · have := a1 z hz; omega
      · exact e, fun hz => by
      rcases List.mem_cons.1 ((h z).2 (by simp [hz])) with e | e
      · have := b1 z hz; omega
      · exact e⟩)]
theorem risF_sorted {size : Int} : ∀ {l : List Int} {last : Int}, risF size last l = true → l.Pairwise (· < ·) ∧ (∀ x ∈ l, last < x ∧ x % 4 = 0)
  | [], _, _ => ⟨List.Pairwise.nil, fun x hx => by simp at hx⟩
  | y :: r, last, h => by
    simp only [risF, Bool.and_eq_true, decide_eq_true_eq] at h
    obtain ⟨h1, h2⟩ := risF_sorted h.2
    refine ⟨List.pairwise_cons.2 ⟨fun z hz => (h2 z hz).1, h1⟩, fun x hx => ?_⟩
    rcases List.mem_cons.1 hx with rfl | hx
    · exact ⟨h.1.2, h.1.1.1.2⟩
    · have := h2 x hx; exact ⟨by omega, this.2⟩
structure RightP (d : DescR) : Prop where
  s0 : 0 ≤ d.size
  s1 : d.size ≤ 1024
  s4 : d.size % 4 = 0
  e0 : 0 ≤ d.elem
  e1 : d.elem ≤ 256
  e4 : d.elem % 4 = 0
  p : d.ptrs.Pairwise (· < ·)
  pp : ∀ x ∈ d.ptrs, 0 ≤ x ∧ x < d.size ∧ x % 4 = 0
  q : d.eptrs.Pairwise (· < ·)
  qq : ∀ x ∈ d.eptrs, 0 ≤ x ∧ x < d.elem ∧ x % 4 = 0
theorem right_of {d : DescR} (h : rightB d = true) : RightP d := by
  simp only [rightB, Bool.and_eq_true, decide_eq_true_eq] at h
  obtain ⟨⟨⟨⟨⟨⟨⟨h1, h2⟩, h3⟩, h4⟩, h5⟩, h6⟩, h7⟩, h8⟩ := h
  exact ⟨h1, h2, h3, h4, h5, h6, (risF_sorted h7).1, fun x hx => ⟨(risF_le h7 x hx).1, (risF_le h7 x hx).2, ((risF_sorted h7).2 x hx).2⟩,
    (risF_sorted h8).1, fun x hx => ⟨(risF_le h8 x hx).1, (risF_le h8 x hx).2, ((risF_sorted h8).2 x hx).2⟩⟩
theorem mul_step {i n : Int} {e : Int} (h : i + 1 ≤ n) (he : 0 ≤ e) : i * e + e ≤ n * e := by
  have := Int.mul_le_mul_of_nonneg_right h he
  rw [Int.add_mul, Int.one_mul] at this
  exact this
theorem mem_slots {d : DescR} (h : RightP d) (n : Nat) (x : Int) : x ∈ slotsF d n ↔ kindP d n x = 2 := by
  unfold slotsF kindP
  rw [List.mem_append]
  constructor
  · rintro (hx | hx)
    · obtain ⟨h1, h2, h3⟩ := h.pp x hx
      have hm : 0 ≤ (n : Int) * d.elem := Int.mul_nonneg (by omega) h.e0
      rw [if_neg (by omega), if_pos (Or.inl ⟨h2, hx⟩)]
    · obtain ⟨i, hi, hx⟩ := List.mem_flatMap.1 hx
      obtain ⟨y, hy, rfl⟩ := List.mem_map.1 hx
      obtain ⟨h1, h2, h3⟩ := h.qq y hy
      have hi' : (i : Int) + 1 ≤ n := by have := List.mem_range.1 hi; omega
      have hm := mul_step hi' h.e0
      have hm0 : 0 ≤ (i : Int) * d.elem := Int.mul_nonneg (by omega) h.e0
      have h4 : ((i : Int) * d.elem) % 4 = 0 := by rw [Int.mul_emod, h.e4]; simp
      have hs := h.s4
      have hs0 := h.s0
      generalize hP : (i : Int) * d.elem = P at *
      have hc : ¬ (d.size + P + y < 0 ∨ (d.size + P + y) % 4 ≠ 0 ∨ d.size + (n : Int) * d.elem ≤ d.size + P + y) := by omega
      rw [if_neg hc, if_pos]
      refine Or.inr ⟨by omega, ?_⟩
      have e9 : d.size + P + y - d.size = y + (i : Int) * d.elem := by rw [hP]; omega
      rw [e9, Int.add_mul_emod_self_right, Int.emod_eq_of_lt h1 h2]
      exact hy
  · intro hk
    split at hk
    · cases hk
    · rename_i h0
      split at hk
      · rename_i h1
        rcases h1 with ⟨h1, h2⟩ | ⟨h1, h2⟩
        · exact .inl h2
        · right
          have hq := h.qq _ h2
          have hd := Int.emod_add_mul_ediv (x - d.size) d.elem
          have hdiv : 0 ≤ (x - d.size) / d.elem := Int.ediv_nonneg (by omega) h.e0
          have hlt : (x - d.size) / d.elem < n := by
            refine Int.ediv_lt_of_lt_mul (by omega) ?_
            omega
          refine List.mem_flatMap.2 ⟨((x - d.size) / d.elem).toNat, List.mem_range.2 (by omega), List.mem_map.2 ⟨(x - d.size) % d.elem, h2, ?_⟩⟩
          rw [Int.toNat_of_nonneg hdiv, Int.mul_comm]
          omega
      · cases hk
theorem sorted_slots {d : DescR} (h : RightP d) : ∀ n : Nat, (slotsF d n).Pairwise (· < ·) ∧ ∀ x ∈ slotsF d n, x < d.size + (n : Int) * d.elem
  | 0 => by
    simp only [slotsF, List.range_zero, List.flatMap_nil, List.append_nil]
    exact ⟨h.p, fun x hx => by have := (h.pp x hx).2.1; simp; omega⟩
  | n + 1 => by
    obtain ⟨h1, h2⟩ := sorted_slots h n
    have e : slotsF d (n + 1) = slotsF d n ++ d.eptrs.map fun y => d.size + (n : Int) * d.elem + y := by
      unfold slotsF
      rw [List.range_succ, List.flatMap_append, List.append_assoc]
      simp
    have hm : ((n + 1 : Nat) : Int) * d.elem = (n : Int) * d.elem + d.elem := by rw [Int.natCast_add, Int.add_mul]; simp
    rw [e]
    refine ⟨List.pairwise_append.2 ⟨h1, ?_, fun x hx y hy => ?_⟩, fun x hx => ?_⟩
    · exact List.pairwise_map.2 (h.q.imp fun hab => by omega)
    · obtain ⟨z, hz, rfl⟩ := List.mem_map.1 hy
      have := h2 x hx
      have := (h.qq z hz).1
      omega
    · rcases List.mem_append.1 hx with hx | hx
      · have := h2 x hx
        have := h.e0
        omega
      · obtain ⟨z, hz, rfl⟩ := List.mem_map.1 hx
        have := (h.qq z hz).2.1
        omega
/-- One by one they are those. -/
theorem slots_all {d : DescR} (h : RightP d) (n k : Nat) (hk : d.size + (n : Int) * d.elem ≤ 4 * (k : Int)) : slotsW d n k = slotsF d n := by
  refine sorted_ext _ _ ?_ (sorted_slots h n).1 fun x => ?_
  · unfold slotsW
    refine List.Pairwise.filter _ (List.pairwise_map.2 ?_)
    exact (List.pairwise_lt_range (n := k)).imp fun hab => by omega
  · unfold slotsW
    rw [List.mem_filter, List.mem_map, mem_slots h n x]
    constructor
    · rintro ⟨_, hx⟩
      simpa using hx
    · intro hx
      have hx' := hx
      unfold kindP at hx'
      split at hx'
      · cases hx'
      · rename_i h0
        exact ⟨⟨(x / 4).toNat, List.mem_range.2 (by omega), by omega⟩, by simpa using hx⟩
theorem slots_len (d : DescR) (n : Nat) : (slotsF d n).length = d.ptrs.length + n * d.eptrs.length := by
  induction n with
  | zero => simp [slotsF]
  | succ n ih =>
    have e : slotsF d (n + 1) = slotsF d n ++ d.eptrs.map fun y => d.size + (n : Int) * d.elem + y := by
      unfold slotsF
      rw [List.range_succ, List.flatMap_append, List.append_assoc]
      simp
    rw [e, List.length_append, ih, List.length_map, Nat.succ_mul, Nat.add_assoc]
end Go.Proofs.YtgmpcinlkiiboaaGreatDoor
