/- desc: partText, Print. desc: Print. -/
import Derived.Test.YtgmpcinlkiiboaaGreatDoorBuild
import Derived.Test.YtgmpcinlkiiboaaGreatDoorBytesD
import Derived.Test.YtgmpcinlkiiboaaGreatDoorApp
import Derived.Lib.AppendIntMem
import Derived.Test.YtgmpcinlkiiboaaGreatDoorSlotsD
import Derived.Test.YtgmpcinlkiiboaaGreatDoorCell
namespace Go.Proofs.YtgmpcinlkiiboaaGreatDoor
open Go.RowKit Go
theorem dec_num : ∀ n, Lib.decDigits n = numS n := by
  intro n
  induction n using Nat.strongRecOn with
  | _ n ih =>
    rw [Lib.decDigits, numS]
    split
    · rfl
    · rw [ih (n / 10) (by omega)]; rfl
theorem itoa_num (n : Nat) : Lib.itoa (n : Int) = numS n := by rw [← dec_num]; unfold Lib.itoa; rw [if_neg (by omega)]; simp
theorem numS_le5 (n : Nat) (h : n < 100000) : (numS n).length ≤ 5 := by
  rw [numS]; split
  · simp
  · rw [List.length_append, numS]; split
    · simp
    · rw [List.length_append, numS]; split
      · simp
      · rw [List.length_append, numS]; split
        · simp
        · rw [List.length_append, numS]; split
          · simp
          · omega
theorem ext_grow (w : World) (k : Nat) (os : Array Obj) : Ext w (Sort.grow (w.drewN k) os) := by
  have h : Ext (w.drewN k) (Sort.grow (w.drewN k) os) := ⟨rfl, rfl, rfl, by simp [Sort.grow], fun i hi => by
    have hi' : i < w.heap.size := by simpa using hi
    simp [Sort.grow, Array.getElem?_append]; omega⟩
  exact Ext.trans (ext_drewN' w k) h
def HTab (w : World) : Prop := Lib.TabBelow Tryz.prog w.heap.size w "internal/strconv.uint64pow10" .u64 Lib.pow10Tab
theorem HTab.ext {w w' : World} (h : HTab w) (k : Ext w w') : HTab w' := fun w'' k2 => h w'' (Ext.trans k k2)
theorem itoa_is (n : Nat) (hn : n ≤ 1000000) (w : World) (h : HTab w) :
    Calls Tryz.prog 31 #[.int .i64 n] w fun e w' => e = .returned (.string ⟨(numS n).toArray⟩) ∧ Ext w w' := by
  refine (Tryz.strconv_Itoa n (by omega) (by omega) w (h w (Ext.refl _))).mono ?_
  rintro e w' ⟨rfl, k, os, rfl⟩
  exact ⟨by rw [itoa_num], ext_grow _ _ _⟩
theorem IsB.ext {B b : Nat} {l : List UInt8} {w w' : World} (h : IsB B b l w) (k : Ext w w') : IsB B b l w' := by
  have : ∀ p, Lib.BuilderAt 69 5 B b p (Lib.byteCells l) w → Lib.BuilderAt 69 5 B b p (Lib.byteCells l) w' := by
    rintro p ⟨hB, v, hbk, hown, hne⟩
    exact ⟨hB, v, (k.block b (Array.getElem?_eq_some_iff.1 hbk).1).trans hbk, own_ext hown k, hne⟩
  rcases h with h | h
  · exact .inl (this _ h)
  · exact .inr (this _ h)
/-- What has been written by the k-th. -/
def wrS (size : Nat) (l : List Int) (k : Nat) : List UInt8 := numS size ++ 58 :: (l.take k).flatMap fun x => 32 :: numS x.toNat
theorem wrS_zero (size : Nat) (l : List Int) : wrS size l 0 = numS size ++ [58] := by simp [wrS]
theorem wrS_succ (size : Nat) (l : List Int) (k : Nat) (hk : k < l.length) : wrS size l (k + 1) = wrS size l k ++ [32] ++ numS (l.getD k 0).toNat := by
  unfold wrS
  have e : l.take (k + 1) = l.take k ++ [l.getD k 0] := by rw [List.take_add_one, List.getD_eq_getElem?_getD, List.getElem?_eq_getElem hk]; rfl
  rw [e, List.flatMap_append]
  simp
theorem wrS_end (size : Nat) (l : List Int) : wrS size l l.length = partS size (l.map Int.toNat) := by
  unfold wrS partS
  rw [List.take_length]
  simp [List.flatMap_map]
theorem wrS_len (size : Nat) (l : List Int) (hs : size < 100000) (hl : ∀ x ∈ l, 0 ≤ x ∧ x ≤ 2000) : ∀ k, k ≤ l.length → (wrS size l k).length ≤ 6 + 6 * k
  | 0, _ => by rw [wrS_zero]; have := numS_le5 size hs; simp; omega
  | k + 1, h => by
    have ih := wrS_len size l hs hl k (by omega)
    rw [wrS_succ size l k (by omega)]
    have hm : l.getD k 0 ∈ l := by rw [List.getD_eq_getElem?_getD, List.getElem?_eq_getElem (by omega : k < l.length)]; exact List.getElem_mem _
    have := hl _ hm
    have := numS_le5 (l.getD k 0).toNat (by omega)
    simp only [List.length_append, List.length_singleton]
    omega
theorem getD_mem' {L : List Int} {k : Nat} (hk : k < L.length) : L.getD k 0 ∈ L := by rw [List.getD_eq_getElem?_getD, List.getElem?_eq_getElem hk]; exact List.getElem_mem _
section
set_option maxHeartbeats 4000000 in
theorem partText_is (size : Nat) (A : Option Addr) (n c : Nat) (l : List Int) (hs : size ≤ 2000) (hn : n ≤ 1000) (hl : ∀ x ∈ l, 0 ≤ x ∧ x ≤ 2000) (w : World) (hT : HTab w) (h : Il w A n l) :
    Calls Tryz.prog 18 #[.int .i64 size, .slice A n c] w fun e w' => e = .returned (.string ⟨(partS size (l.map Int.toNat)).toArray⟩) ∧ Ext w w' := by
  have hln : l.length = n := h.1
  have B0 : IsB w.heap.size w.heap.size [] (w.alloc (.cells #[.pointer none, .slice none 0 0] 69)) := Lib.fresh_isBuilder _ _ w
  have W := Lib.hid (fun (t s : List UInt8) (W : World) (hE : Ext w W) (hB : IsB w.heap.size w.heap.size t W) (hlen : t.length + s.length ≤ 1000000) => writeString_is w.heap.size w.heap.size t s W hB hlen hE.size)
  have I := Lib.hid (fun (k : Nat) (hk : k ≤ 1000000) (W : World) (hE : Ext w W) => itoa_is k hk W (hT.ext hE))
  have S := Lib.hid (fun (t : List UInt8) (W : World) (hE : Ext w W) (hB : IsB w.heap.size w.heap.size t W) => Tryz.Builder_String_any w.heap.size w.heap.size t W hB hE.size)
  have HL := Lib.hid (wrS_len size l (by omega) hl)
  have H := Lib.hid (And.intro h (And.intro hl (And.intro B0 hT)))
  have hns := numS_le5 size (by omega)
  clear h hl B0 hT
  go_enter Tryz.func18, Tryz.ntmps18
  go_wp2_with (first | (go_at_call 31; (refine (I.out size (by omega) _ (ext1 _ _)).mono ?_); rintro e w1 ⟨rfl, k1⟩; have K1 := Lib.hid (And.intro (Ext.trans (ext1 _ _) k1) (H.out.2.2.1.ext k1)); clear k1) | (go_at_call 30; first | ((with_reducible refine (W.out [] (numS size) _ K1.out.1 K1.out.2 (by simp; omega)).mono ?_); rintro e w2 ⟨rfl, b2, k2⟩; have K2 := Lib.hid (And.intro (Below.trans K1.out.1 k2) b2); clear k2 b2) | ((refine (W.out (numS size) [58] _ K2.out.1 K2.out.2 (by simp; omega)).mono ?_); rintro e w3 ⟨rfl, b3, k3⟩; have K3 := Lib.hid (And.intro (Below.trans K2.out.1 k3) b3); clear k3 b3)))
  go_loopg [7, 14] n (fun m v i wr => ∃ k : Nat, k + m = n ∧ i = .int .i64 k ∧ IsB w.heap.size w.heap.size (wrS size l k) wr ∧ Ext w wr)
  case atStart => exact ⟨0, by omega, rfl, by rw [wrS_zero]; exact K3.out.2, K3.out.1⟩
  case round =>
    obtain ⟨k, hk, rfl, hB, hE⟩ := hrel
    by_cases hlt : k < n
    · obtain ⟨ad, rfl, hab, hcell⟩ := (H.out.1.ext hE).at_ hlt
      have ck := hcell k hlt
      have h5 : (k : Int) < n := by omega
      have h6 : (k : Int) + 1 ≤ 1000000 := by omega
      have hm : l.getD k 0 ∈ l := getD_mem' (by omega)
      have hx := H.out.2.1 _ hm
      have hw := wrS_succ size l k (by omega)
      have hwl := HL.out k (by omega)
      have HH := Lib.hid (And.intro hE (And.intro hB (And.intro hw hk)))
      clear hE hB hw hcell hm hk
      generalize l.getD k 0 = x at *
      obtain ⟨X, rfl⟩ : ∃ y : Nat, x = y := ⟨x.toNat, by omega⟩
      have hnx := numS_le5 X (by omega)
      go_wp2_with (first | (go_at_call 30; first | ((with_reducible refine (W.out (wrS size l k ++ [32]) (numS X) _ K5.out.1 K5.out.2 (by simp only [List.length_append, List.length_singleton]; omega)).mono ?_); rintro e w6 ⟨rfl, b6, k6⟩; have K6 := Lib.hid (And.intro (Below.trans K5.out.1 k6) b6); clear k6 b6) | ((refine (W.out (wrS size l k) [32] _ HH.out.1 HH.out.2.1 (by simp only [List.length_singleton]; omega)).mono ?_); rintro e w4 ⟨rfl, b4, k4⟩; have K4 := Lib.hid (And.intro (Below.trans HH.out.1 k4) b4); clear k4 b4)) | (go_at_call 31; (refine (I.out X (by omega) _ K4.out.1).mono ?_); rintro e w5 ⟨rfl, k5⟩; have K5 := Lib.hid (And.intro (Ext.trans K4.out.1 k5) (K4.out.2.ext k5)); clear k5))
      go_roundg (gk - 1)
      case measure => have := HH.out.2.2.2; omega
      case rel => exact ⟨k + 1, by have := HH.out.2.2.2; omega, by go_num, by rw [HH.out.2.2.1]; exact K6.out.2, K6.out.1⟩
    · obtain rfl : k = n := by omega
      have h5 : ¬ (k : Int) < k := by omega
      have HH := Lib.hid (And.intro hE hB)
      have HN := Lib.hid (wrS_end size l)
      clear hE hB hk
      go_wp2_with (go_at_call 32; (refine (S.out (wrS size l k) _ HH.out.1 HH.out.2).mono ?_); rintro e w4 ⟨rfl, k4⟩)
      go_ret
      refine ⟨?_, Below.trans HH.out.1 k4⟩
      rw [← HN.out, hln]; rfl
end
theorem cat_tv (a b : List UInt8) : (⟨a.toArray⟩ : ByteArray) ++ ⟨b.toArray⟩ = ⟨(a ++ b).toArray⟩ := by
  apply ByteArray.ext; rw [ByteArray.data_append]; simp
abbrev tvv (l : List UInt8) : Value := .string ⟨l.toArray⟩
section
set_option maxHeartbeats 4000000 in
set_option maxRecDepth 100000 in
theorem dprint_is (A B : Option Addr) (n m c e : Nat) (s t : Int) (l r : List Int) (hn : n ≤ 1000) (hm : m ≤ 1000) (w : World) (hG : G w) (hT : HTab w) (h : Il w A n l) (h' : Il w B m r) :
    Calls Tryz.prog 6 #[.agg #[.int .i64 s, .slice A n c, .int .i64 t, .slice B m e]] w fun e w' => e = .returned (.tuple #[tvv (textV ⟨s, l, t, r⟩), .int .i64 (textE ⟨s, l, t, r⟩)]) ∧ Ext w w' := by
  have E1 := ext1 w (.cells #[.int .i64 s, .slice A n c, .int .i64 t, .slice B m e] 24)
  have HE := Lib.hid E1
  have RR := Lib.hid (fun W (hW : Ext (w.alloc (.cells #[.int .i64 s, .slice A n c, .int .i64 t, .slice B m e] 24)) W) => noDesc_is A B n m c e s t l r (by omega) (by omega) W (hG.ext (Ext.trans E1 hW)) (h.ext (Ext.trans E1 hW)) (h'.ext (Ext.trans E1 hW)))
  have HG := Lib.hid (fun W (hW : Ext w W) => hG.ext hW)
  have B1 := Blk.new w #[.int .i64 s, .slice A n c, .int .i64 t, .slice B m e] 24
  by_cases hr : rightB ⟨s, l, t, r⟩ = true
  · have hR := right_of hr
    obtain ⟨S, rfl⟩ : ∃ k : Nat, s = k := ⟨s.toNat, by have : 0 ≤ s := hR.s0; omega⟩
    obtain ⟨T, rfl⟩ : ∃ k : Nat, t = k := ⟨t.toNat, by have : 0 ≤ t := hR.e0; omega⟩
    have hS : (S : Int) ≤ 1024 := hR.s1
    have hT' : (T : Int) ≤ 256 := hR.e1
    have hp : ∀ x ∈ l, 0 ≤ x ∧ x ≤ 2000 := fun x hx => by have := hR.pp x hx; have h2 : x < (S : Int) := this.2.1; omega
    have hq : ∀ x ∈ r, 0 ≤ x ∧ x ≤ 2000 := fun x hx => by have := hR.qq x hx; have h2 : x < (T : Int) := this.2.1; omega
    have R1 := Lib.hid (fun W (hW : Ext (w.alloc (.cells #[.int .i64 (S : Int), .slice A n c, .int .i64 (T : Int), .slice B m e] 24)) W) => partText_is S A n c l (by omega) hn hp W (hT.ext (Ext.trans E1 hW)) (h.ext (Ext.trans E1 hW)))
    have R2 := Lib.hid (fun W (hW : Ext (w.alloc (.cells #[.int .i64 (S : Int), .slice A n c, .int .i64 (T : Int), .slice B m e] 24)) W) => partText_is T B m e r (by omega) hm hq W (hT.ext (Ext.trans E1 hW)) (h'.ext (Ext.trans E1 hW)))
    have z1 : (partS S (l.map Int.toNat)).length ≤ 10000 := by
      have := wrS_len S l (by omega) hp l.length (Nat.le_refl _)
      rw [wrS_end, h.1] at this; omega
    have z2 : (partS T (r.map Int.toNat)).length ≤ 10000 := by
      have := wrS_len T r (by omega) hq r.length (Nat.le_refl _)
      rw [wrS_end, h'.1] at this; omega
    have s1 : (ByteArray.mk (partS S (l.map Int.toNat)).toArray).size ≤ 10000 := by show (partS S (l.map Int.toNat)).toArray.size ≤ _; simpa using z1
    have s2 : (ByteArray.mk (partS T (r.map Int.toNat)).toArray).size ≤ 10000 := by show (partS T (r.map Int.toNat)).toArray.size ≤ _; simpa using z2
    have s3 : (ByteArray.mk (partS S (l.map Int.toNat)).toArray ++ ⟨#[59, 32]⟩).size ≤ 10002 := by rw [ByteArray.size_append]; have : (ByteArray.mk #[59, 32]).size = 2 := rfl; omega
    have HN := Lib.hid (show Value.tuple #[.string (ByteArray.mk (partS S (l.map Int.toNat)).toArray ++ ⟨#[59, 32]⟩ ++ ⟨(partS T (r.map Int.toNat)).toArray⟩), .int .i64 0] = .tuple #[tvv (textV ⟨S, l, T, r⟩), .int .i64 (textE ⟨S, l, T, r⟩)] by
      rw [textV, textE, if_pos hr, if_pos hr, show ByteArray.mk #[59, 32] = ⟨[59, 32].toArray⟩ from rfl, cat_tv, cat_tv]
      simp [textS])
    rw [hr] at RR
    clear hr hR hS hT' hp hq z1 z2 h h' E1 hG hT
    generalize ByteArray.mk (partS S (l.map Int.toNat)).toArray = P1 at *
    generalize ByteArray.mk (partS T (r.map Int.toNat)).toArray = P2 at *
    go_enter Tryz.func6, Tryz.ntmps6
    go_wp2_with (first | (go_at_call 17; (with_reducible refine (RR.out _ (Ext.refl _)).mono ?_); rintro e w1 ⟨⟨v, rfl, hv⟩, k1⟩; obtain rfl := code_nil hv rfl; clear hv) | (go_at_call 16; (refine (told1_is 0 .nilIface _ 43 _ (HG.out _ (Ext.trans (Ext.trans HE.out k1) (ext1 _ _))) (Blk.new _ _ _) code_0).mono ?_); rintro e w2 ⟨rfl, k2⟩))
    have k3 : Ext (w.alloc (.cells #[.int .i64 (S : Int), .slice A n c, .int .i64 (T : Int), .slice B m e] 24)) w2 := Ext.trans k1 (Ext.trans (ext1 _ _) k2)
    have C0 := on_cell ((B1.ext k3).cell 0)
    have C1 := on_cell ((B1.ext k3).cell 1)
    have C2 := on_cell ((B1.ext k3).cell 2)
    have C3 := on_cell ((B1.ext k3).cell 3)
    refine wp_region_on (by kernel_rfl) (by kernel_rfl) ?_
    repeat (go_big_quiet_step (first | (go_at_call 18; with_reducible exact on_call (fun W hW => R1.out W (Ext.trans k3 hW)) _) | (go_at_call 18; with_reducible exact on_call (fun W hW => R2.out W (Ext.trans k3 hW)) _)))
    refine wpQuiet_nil ?_
    intro W hW
    go_wp2
    go_ret2
    exact ⟨ret_val HN.out, Ext.trans HE.out (Ext.trans k3 hW)⟩
  · have hr' : rightB ⟨s, l, t, r⟩ = false := by simpa using hr
    have HN := Lib.hid (show Value.tuple #[.string ⟨#[]⟩, .int .i64 40] = .tuple #[tvv (textV ⟨s, l, t, r⟩), .int .i64 (textE ⟨s, l, t, r⟩)] by rw [textV, textE, if_neg hr, if_neg hr])
    rw [hr'] at RR
    clear hr hr' h h' E1 hG hT
    go_enter Tryz.func6, Tryz.ntmps6
    go_wp2_with (first | (go_at_call 17; (with_reducible refine (RR.out _ (Ext.refl _)).mono ?_); rintro e w1 ⟨⟨v, rfl, hv⟩, k1⟩; have HV := Lib.hid (show Code v 40 from hv); obtain ⟨te, pe, rfl⟩ := code_err HV.out (by decide); clear hv) | (go_at_call 16; (refine (told1_is 40 _ _ 43 _ (HG.out _ (Ext.trans (Ext.trans HE.out k1) (ext1 _ _))) (Blk.new _ _ _) HV.out).mono ?_); rintro e w2 ⟨rfl, k2⟩))
    go_ret2
    exact ⟨ret_val HN.out, Ext.trans HE.out (Ext.trans k1 (Ext.trans (ext1 _ _) k2))⟩
end
end Go.Proofs.YtgmpcinlkiiboaaGreatDoor
