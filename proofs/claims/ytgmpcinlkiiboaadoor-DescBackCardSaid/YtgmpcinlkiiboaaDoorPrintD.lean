/- desc: partText, Print. -/
import Derived.Test.YtgmpcinlkiiboaaDoorBuild
import Derived.Test.YtgmpcinlkiiboaaDoorBytesD
import Derived.Test.YtgmpcinlkiiboaaDoorApp
import Derived.Lib.AppendIntMem
namespace Go.Proofs.YtgmpcinlkiiboaaDoor
open Go.RowKit Go
theorem dec_num : ∀ n, Lib.decDigits n = numS n := by
  intro n
  induction n using Nat.strongRecOn with
  | _ n ih =>
    rw [Lib.decDigits, numS]
    split
    · rfl
    · rw [ih (n / 10) (by omega)]; rfl
theorem itoa_num (n : Nat) : Lib.itoa (n : Int) = numS n := by rw [← dec_num]; unfold Lib.itoa; rw [if_neg (by omega)]; simp
theorem numS_le5 (n : Nat) (h : n < 100000) : (numS n).length ≤ 5 := by
  rw [numS]; split
  · simp
  · rw [List.length_append, numS]; split
    · simp
    · rw [List.length_append, numS]; split
      · simp
      · rw [List.length_append, numS]; split
        · simp
        · rw [List.length_append, numS]; split
          · simp
          · omega
theorem ext_grow (w : World) (k : Nat) (os : Array Obj) : Ext w (Sort.grow (w.drewN k) os) := by
  have h : Ext (w.drewN k) (Sort.grow (w.drewN k) os) := ⟨rfl, rfl, rfl, by simp [Sort.grow], fun i hi => by
    have hi' : i < w.heap.size := by simpa using hi
    simp [Sort.grow, Array.getElem?_append]; omega⟩
  exact Ext.trans (ext_drewN' w k) h
def HTab (w : World) : Prop := Lib.TabBelow Tryd.prog w.heap.size w "internal/strconv.uint64pow10" .u64 Lib.pow10Tab
theorem HTab.ext {w w' : World} (h : HTab w) (k : Ext w w') : HTab w' := fun w'' k2 => h w'' (Ext.trans k k2)
theorem itoa_is (n : Nat) (hn : n ≤ 1000000) (w : World) (h : HTab w) :
    Calls Tryd.prog 51 #[.int .i64 n] w fun e w' => e = .returned (.string ⟨(numS n).toArray⟩) ∧ Ext w w' := by
  refine (Tryd.strconv_Itoa n (by omega) (by omega) w (h w (Ext.refl _))).mono ?_
  rintro e w' ⟨rfl, k, os, rfl⟩
  exact ⟨by rw [itoa_num], ext_grow _ _ _⟩
theorem IsB.ext {B b : Nat} {l : List UInt8} {w w' : World} (h : IsB B b l w) (k : Ext w w') : IsB B b l w' := by
  have : ∀ p, Lib.BuilderAt 84 5 B b p (Lib.byteCells l) w → Lib.BuilderAt 84 5 B b p (Lib.byteCells l) w' := by
    rintro p ⟨hB, v, hbk, hown, hne⟩
    exact ⟨hB, v, (k.block b (Array.getElem?_eq_some_iff.1 hbk).1).trans hbk, own_ext hown k, hne⟩
  rcases h with h | h
  · exact .inl (this _ h)
  · exact .inr (this _ h)
/-- What has been written by the k-th. -/
def wrS (size : Nat) (l : List Int) (k : Nat) : List UInt8 := numS size ++ 58 :: (l.take k).flatMap fun x => 32 :: numS x.toNat
theorem wrS_zero (size : Nat) (l : List Int) : wrS size l 0 = numS size ++ [58] := by simp [wrS]
theorem wrS_succ (size : Nat) (l : List Int) (k : Nat) (hk : k < l.length) : wrS size l (k + 1) = wrS size l k ++ [32] ++ numS (l.getD k 0).toNat := by
  unfold wrS
  have e : l.take (k + 1) = l.take k ++ [l.getD k 0] := by rw [List.take_add_one, List.getD_eq_getElem?_getD, List.getElem?_eq_getElem hk]; rfl
  rw [e, List.flatMap_append]
  simp
theorem wrS_end (size : Nat) (l : List Int) : wrS size l l.length = partS size (l.map Int.toNat) := by
  unfold wrS partS
  rw [List.take_length]
  simp [List.flatMap_map]
theorem wrS_len (size : Nat) (l : List Int) (hs : size < 100000) (hl : ∀ x ∈ l, 0 ≤ x ∧ x ≤ 2000) : ∀ k, k ≤ l.length → (wrS size l k).length ≤ 6 + 6 * k
  | 0, _ => by rw [wrS_zero]; have := numS_le5 size hs; simp; omega
  | k + 1, h => by
    have ih := wrS_len size l hs hl k (by omega)
    rw [wrS_succ size l k (by omega)]
    have hm : l.getD k 0 ∈ l := by rw [List.getD_eq_getElem?_getD, List.getElem?_eq_getElem (by omega : k < l.length)]; exact List.getElem_mem _
    have := hl _ hm
    have := numS_le5 (l.getD k 0).toNat (by omega)
    simp only [List.length_append, List.length_singleton]
    omega
theorem getD_mem' {L : List Int} {k : Nat} (hk : k < L.length) : L.getD k 0 ∈ L := by rw [List.getD_eq_getElem?_getD, List.getElem?_eq_getElem hk]; exact List.getElem_mem _
section
set_option maxHeartbeats 4000000 in
theorem partText_is (size : Nat) (A : Option Addr) (n c : Nat) (l : List Int) (hs : size ≤ 2000) (hn : n ≤ 1000) (hl : ∀ x ∈ l, 0 ≤ x ∧ x ≤ 2000) (w : World) (hT : HTab w) (h : Il w A n l) :
    Calls Tryd.prog 35 #[.int .i64 size, .slice A n c] w fun e w' => e = .returned (.string ⟨(partS size (l.map Int.toNat)).toArray⟩) ∧ Ext w w' := by
  have hln : l.length = n := h.1
  have B0 : IsB w.heap.size w.heap.size [] (w.alloc (.cells #[.pointer none, .slice none 0 0] 84)) := Lib.fresh_isBuilder _ _ w
  have W := Lib.hid (fun (t s : List UInt8) (W : World) (hE : Ext w W) (hB : IsB w.heap.size w.heap.size t W) (hlen : t.length + s.length ≤ 1000000) => writeString_is w.heap.size w.heap.size t s W hB hlen hE.size)
  have I := Lib.hid (fun (k : Nat) (hk : k ≤ 1000000) (W : World) (hE : Ext w W) => itoa_is k hk W (hT.ext hE))
  have S := Lib.hid (fun (t : List UInt8) (W : World) (hE : Ext w W) (hB : IsB w.heap.size w.heap.size t W) => Tryd.Builder_String_any w.heap.size w.heap.size t W hB hE.size)
  have HL := Lib.hid (wrS_len size l (by omega) hl)
  have H := Lib.hid (And.intro h (And.intro hl (And.intro B0 hT)))
  have hns := numS_le5 size (by omega)
  clear h hl B0 hT
  go_enter Tryd.func35, Tryd.ntmps35
  go_wp2_with (first | (go_at_call 51; (refine (I.out size (by omega) _ (ext1 _ _)).mono ?_); rintro e w1 ⟨rfl, k1⟩; have K1 := Lib.hid (And.intro (Ext.trans (ext1 _ _) k1) (H.out.2.2.1.ext k1)); clear k1) | (go_at_call 50; first | ((with_reducible refine (W.out [] (numS size) _ K1.out.1 K1.out.2 (by simp; omega)).mono ?_); rintro e w2 ⟨rfl, b2, k2⟩; have K2 := Lib.hid (And.intro (Below.trans K1.out.1 k2) b2); clear k2 b2) | ((refine (W.out (numS size) [58] _ K2.out.1 K2.out.2 (by simp; omega)).mono ?_); rintro e w3 ⟨rfl, b3, k3⟩; have K3 := Lib.hid (And.intro (Below.trans K2.out.1 k3) b3); clear k3 b3)))
  go_loopg [7, 14] n (fun m v i wr => ∃ k : Nat, k + m = n ∧ i = .int .i64 k ∧ IsB w.heap.size w.heap.size (wrS size l k) wr ∧ Ext w wr)
  case atStart => exact ⟨0, by omega, rfl, by rw [wrS_zero]; exact K3.out.2, K3.out.1⟩
  case round =>
    obtain ⟨k, hk, rfl, hB, hE⟩ := hrel
    by_cases hlt : k < n
    · obtain ⟨ad, rfl, hab, hcell⟩ := (H.out.1.ext hE).at_ hlt
      have ck := hcell k hlt
      have h5 : (k : Int) < n := by omega
      have h6 : (k : Int) + 1 ≤ 1000000 := by omega
      have hm : l.getD k 0 ∈ l := getD_mem' (by omega)
      have hx := H.out.2.1 _ hm
      have hw := wrS_succ size l k (by omega)
      have hwl := HL.out k (by omega)
      have HH := Lib.hid (And.intro hE (And.intro hB (And.intro hw hk)))
      clear hE hB hw hcell hm hk
      generalize l.getD k 0 = x at *
      obtain ⟨X, rfl⟩ : ∃ y : Nat, x = y := ⟨x.toNat, by omega⟩
      have hnx := numS_le5 X (by omega)
      go_wp2_with (first | (go_at_call 50; first | ((with_reducible refine (W.out (wrS size l k ++ [32]) (numS X) _ K5.out.1 K5.out.2 (by simp only [List.length_append, List.length_singleton]; omega)).mono ?_); rintro e w6 ⟨rfl, b6, k6⟩; have K6 := Lib.hid (And.intro (Below.trans K5.out.1 k6) b6); clear k6 b6) | ((refine (W.out (wrS size l k) [32] _ HH.out.1 HH.out.2.1 (by simp only [List.length_singleton]; omega)).mono ?_); rintro e w4 ⟨rfl, b4, k4⟩; have K4 := Lib.hid (And.intro (Below.trans HH.out.1 k4) b4); clear k4 b4)) | (go_at_call 51; (refine (I.out X (by omega) _ K4.out.1).mono ?_); rintro e w5 ⟨rfl, k5⟩; have K5 := Lib.hid (And.intro (Ext.trans K4.out.1 k5) (K4.out.2.ext k5)); clear k5))
      go_roundg (gk - 1)
      case measure => have := HH.out.2.2.2; omega
      case rel => exact ⟨k + 1, by have := HH.out.2.2.2; omega, by go_num, by rw [HH.out.2.2.1]; exact K6.out.2, K6.out.1⟩
    · obtain rfl : k = n := by omega
      have h5 : ¬ (k : Int) < k := by omega
      have HH := Lib.hid (And.intro hE hB)
      have HN := Lib.hid (wrS_end size l)
      clear hE hB hk
      go_wp2_with (go_at_call 52; (refine (S.out (wrS size l k) _ HH.out.1 HH.out.2).mono ?_); rintro e w4 ⟨rfl, k4⟩)
      go_ret
      refine ⟨?_, Below.trans HH.out.1 k4⟩
      rw [← HN.out, hln]; rfl
end
end Go.Proofs.YtgmpcinlkiiboaaDoor
