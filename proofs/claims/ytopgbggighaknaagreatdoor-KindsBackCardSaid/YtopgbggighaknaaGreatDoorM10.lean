/- Joined texts, in their order: PrintD, NumR, PrintR. -/
import Derived.Test.YtopgbggighaknaaGreatDoorM09
import Derived.Test.YtopgbggighaknaaGreatDoorM07
import Derived.Test.YtopgbggighaknaaGreatDoorM03
import Derived.Lib.AppendIntMem
import Derived.Test.YtopgbggighaknaaGreatDoorM05
import Derived.Test.YtopgbggighaknaaGreatDoorM06
/- desc: partText, Print. desc: Print. -/
namespace Go.Proofs.YtopgbggighaknaaGreatDoor
open Go.RowKit Go
theorem dec_num : ∀ n, Lib.decDigits n = numS n := by
  intro n
  induction n using Nat.strongRecOn with
  | _ n ih =>
    rw [Lib.decDigits, numS]
    split
    · rfl
    · rw [ih (n / 10) (by omega)]; rfl
theorem itoa_num (n : Nat) : Lib.itoa (n : Int) = numS n := by rw [← dec_num]; unfold Lib.itoa; rw [if_neg (by omega)]; simp
theorem numS_le5 (n : Nat) (h : n < 100000) : (numS n).length ≤ 5 := by
  rw [numS]; split
  · simp
  · rw [List.length_append, numS]; split
    · simp
    · rw [List.length_append, numS]; split
      · simp
      · rw [List.length_append, numS]; split
        · simp
        · rw [List.length_append, numS]; split
          · simp
          · omega
theorem ext_grow (w : World) (k : Nat) (os : Array Obj) : Ext w (Sort.grow (w.drewN k) os) := by
  have h : Ext (w.drewN k) (Sort.grow (w.drewN k) os) := ⟨rfl, rfl, rfl, by simp [Sort.grow], fun i hi => by
    have hi' : i < w.heap.size := by simpa using hi
    simp [Sort.grow, Array.getElem?_append]; omega⟩
  exact Ext.trans (ext_drewN' w k) h
def HTab (w : World) : Prop := Lib.TabBelow Tryz.prog w.heap.size w "internal/strconv.uint64pow10" .u64 Lib.pow10Tab
theorem HTab.ext {w w' : World} (h : HTab w) (k : Ext w w') : HTab w' := fun w'' k2 => h w'' (Ext.trans k k2)
theorem itoa_is (n : Nat) (hn : n ≤ 1000000) (w : World) (h : HTab w) :
    Calls Tryz.prog 66 #[.int .i64 n] w fun e w' => e = .returned (.string ⟨(numS n).toArray⟩) ∧ Ext w w' := by
  refine (Tryz.strconv_Itoa n (by omega) (by omega) w (h w (Ext.refl _))).mono ?_
  rintro e w' ⟨rfl, k, os, rfl⟩
  exact ⟨by rw [itoa_num], ext_grow _ _ _⟩
theorem IsB.ext {B b : Nat} {l : List UInt8} {w w' : World} (h : IsB B b l w) (k : Ext w w') : IsB B b l w' := by
  have : ∀ p, Lib.BuilderAt 61 5 B b p (Lib.byteCells l) w → Lib.BuilderAt 61 5 B b p (Lib.byteCells l) w' := by
    rintro p ⟨hB, v, hbk, hown, hne⟩
    exact ⟨hB, v, (k.block b (Array.getElem?_eq_some_iff.1 hbk).1).trans hbk, own_ext hown k, hne⟩
  rcases h with h | h
  · exact .inl (this _ h)
  · exact .inr (this _ h)
/-- What has been written by the k-th. -/
def wrS (size : Nat) (l : List Int) (k : Nat) : List UInt8 := numS size ++ 58 :: (l.take k).flatMap fun x => 32 :: numS x.toNat
theorem wrS_zero (size : Nat) (l : List Int) : wrS size l 0 = numS size ++ [58] := by simp [wrS]
theorem wrS_succ (size : Nat) (l : List Int) (k : Nat) (hk : k < l.length) : wrS size l (k + 1) = wrS size l k ++ [32] ++ numS (l.getD k 0).toNat := by
  unfold wrS
  have e : l.take (k + 1) = l.take k ++ [l.getD k 0] := by rw [List.take_add_one, List.getD_eq_getElem?_getD, List.getElem?_eq_getElem hk]; rfl
  rw [e, List.flatMap_append]
  simp
theorem wrS_end (size : Nat) (l : List Int) : wrS size l l.length = partS size (l.map Int.toNat) := by
  unfold wrS partS
  rw [List.take_length]
  simp [List.flatMap_map]
theorem wrS_len (size : Nat) (l : List Int) (hs : size < 100000) (hl : ∀ x ∈ l, 0 ≤ x ∧ x ≤ 2000) : ∀ k, k ≤ l.length → (wrS size l k).length ≤ 6 + 6 * k
  | 0, _ => by rw [wrS_zero]; have := numS_le5 size hs; simp; omega
  | k + 1, h => by
    have ih := wrS_len size l hs hl k (by omega)
    rw [wrS_succ size l k (by omega)]
    have hm : l.getD k 0 ∈ l := by rw [List.getD_eq_getElem?_getD, List.getElem?_eq_getElem (by omega : k < l.length)]; exact List.getElem_mem _
    have := hl _ hm
    have := numS_le5 (l.getD k 0).toNat (by omega)
    simp only [List.length_append, List.length_singleton]
    omega
theorem getD_mem' {L : List Int} {k : Nat} (hk : k < L.length) : L.getD k 0 ∈ L := by rw [List.getD_eq_getElem?_getD, List.getElem?_eq_getElem hk]; exact List.getElem_mem _
section
set_option maxHeartbeats 4000000 in
theorem partText_is (size : Nat) (A : Option Addr) (n c : Nat) (l : List Int) (hs : size ≤ 2000) (hn : n ≤ 1000) (hl : ∀ x ∈ l, 0 ≤ x ∧ x ≤ 2000) (w : World) (hT : HTab w) (h : Il w A n l) :
    Calls Tryz.prog 54 #[.int .i64 size, .slice A n c] w fun e w' => e = .returned (.string ⟨(partS size (l.map Int.toNat)).toArray⟩) ∧ Ext w w' := by
  have hln : l.length = n := h.1
  have B0 : IsB w.heap.size w.heap.size [] (w.alloc (.cells #[.pointer none, .slice none 0 0] 61)) := Lib.fresh_isBuilder _ _ w
  have W := Lib.hid (fun (t s : List UInt8) (W : World) (hE : Ext w W) (hB : IsB w.heap.size w.heap.size t W) (hlen : t.length + s.length ≤ 1000000) => writeString_is w.heap.size w.heap.size t s W hB hlen hE.size)
  have I := Lib.hid (fun (k : Nat) (hk : k ≤ 1000000) (W : World) (hE : Ext w W) => itoa_is k hk W (hT.ext hE))
  have S := Lib.hid (fun (t : List UInt8) (W : World) (hE : Ext w W) (hB : IsB w.heap.size w.heap.size t W) => Tryz.Builder_String_any w.heap.size w.heap.size t W hB hE.size)
  have HL := Lib.hid (wrS_len size l (by omega) hl)
  have H := Lib.hid (And.intro h (And.intro hl (And.intro B0 hT)))
  have hns := numS_le5 size (by omega)
  clear h hl B0 hT
  go_enter Tryz.func54, Tryz.ntmps54
  go_wp2_with (first | (go_at_call 66; (refine (I.out size (by omega) _ (ext1 _ _)).mono ?_); rintro e w1 ⟨rfl, k1⟩; have K1 := Lib.hid (And.intro (Ext.trans (ext1 _ _) k1) (H.out.2.2.1.ext k1)); clear k1) | (go_at_call 41; first | ((with_reducible refine (W.out [] (numS size) _ K1.out.1 K1.out.2 (by simp; omega)).mono ?_); rintro e w2 ⟨rfl, b2, k2⟩; have K2 := Lib.hid (And.intro (Below.trans K1.out.1 k2) b2); clear k2 b2) | ((refine (W.out (numS size) [58] _ K2.out.1 K2.out.2 (by simp; omega)).mono ?_); rintro e w3 ⟨rfl, b3, k3⟩; have K3 := Lib.hid (And.intro (Below.trans K2.out.1 k3) b3); clear k3 b3)))
  go_loopg [7, 14] n (fun m v i wr => ∃ k : Nat, k + m = n ∧ i = .int .i64 k ∧ IsB w.heap.size w.heap.size (wrS size l k) wr ∧ Ext w wr)
  case atStart => exact ⟨0, by omega, rfl, by rw [wrS_zero]; exact K3.out.2, K3.out.1⟩
  case round =>
    obtain ⟨k, hk, rfl, hB, hE⟩ := hrel
    by_cases hlt : k < n
    · obtain ⟨ad, rfl, hab, hcell⟩ := (H.out.1.ext hE).at_ hlt
      have ck := hcell k hlt
      have h5 : (k : Int) < n := by omega
      have h6 : (k : Int) + 1 ≤ 1000000 := by omega
      have hm : l.getD k 0 ∈ l := getD_mem' (by omega)
      have hx := H.out.2.1 _ hm
      have hw := wrS_succ size l k (by omega)
      have hwl := HL.out k (by omega)
      have HH := Lib.hid (And.intro hE (And.intro hB (And.intro hw hk)))
      clear hE hB hw hcell hm hk
      generalize l.getD k 0 = x at *
      obtain ⟨X, rfl⟩ : ∃ y : Nat, x = y := ⟨x.toNat, by omega⟩
      have hnx := numS_le5 X (by omega)
      go_wp2_with (first | (go_at_call 41; first | ((with_reducible refine (W.out (wrS size l k ++ [32]) (numS X) _ K5.out.1 K5.out.2 (by simp only [List.length_append, List.length_singleton]; omega)).mono ?_); rintro e w6 ⟨rfl, b6, k6⟩; have K6 := Lib.hid (And.intro (Below.trans K5.out.1 k6) b6); clear k6 b6) | ((refine (W.out (wrS size l k) [32] _ HH.out.1 HH.out.2.1 (by simp only [List.length_singleton]; omega)).mono ?_); rintro e w4 ⟨rfl, b4, k4⟩; have K4 := Lib.hid (And.intro (Below.trans HH.out.1 k4) b4); clear k4 b4)) | (go_at_call 66; (refine (I.out X (by omega) _ K4.out.1).mono ?_); rintro e w5 ⟨rfl, k5⟩; have K5 := Lib.hid (And.intro (Ext.trans K4.out.1 k5) (K4.out.2.ext k5)); clear k5))
      go_roundg (gk - 1)
      case measure => have := HH.out.2.2.2; omega
      case rel => exact ⟨k + 1, by have := HH.out.2.2.2; omega, by go_num, by rw [HH.out.2.2.1]; exact K6.out.2, K6.out.1⟩
    · obtain rfl : k = n := by omega
      have h5 : ¬ (k : Int) < k := by omega
      have HH := Lib.hid (And.intro hE hB)
      have HN := Lib.hid (wrS_end size l)
      clear hE hB hk
      go_wp2_with (go_at_call 42; (refine (S.out (wrS size l k) _ HH.out.1 HH.out.2).mono ?_); rintro e w4 ⟨rfl, k4⟩)
      go_ret
      refine ⟨?_, Below.trans HH.out.1 k4⟩
      rw [← HN.out, hln]; rfl
end
theorem cat_tv (a b : List UInt8) : (⟨a.toArray⟩ : ByteArray) ++ ⟨b.toArray⟩ = ⟨(a ++ b).toArray⟩ := by
  apply ByteArray.ext; rw [ByteArray.data_append]; simp
abbrev tvv (l : List UInt8) : Value := .string ⟨l.toArray⟩
section
set_option maxHeartbeats 4000000 in
set_option maxRecDepth 100000 in
theorem dprint_is (A B : Option Addr) (n m c e : Nat) (s t : Int) (l r : List Int) (hn : n ≤ 1000) (hm : m ≤ 1000) (w : World) (hG : G w) (hT : HTab w) (h : Il w A n l) (h' : Il w B m r) :
    Calls Tryz.prog 40 #[.agg #[.int .i64 s, .slice A n c, .int .i64 t, .slice B m e]] w fun e w' => e = .returned (.tuple #[tvv (textV ⟨s, l, t, r⟩), .int .i64 (textE ⟨s, l, t, r⟩)]) ∧ Ext w w' := by
  have E1 := ext1 w (.cells #[.int .i64 s, .slice A n c, .int .i64 t, .slice B m e] 25)
  have HE := Lib.hid E1
  have RR := Lib.hid (fun W (hW : Ext (w.alloc (.cells #[.int .i64 s, .slice A n c, .int .i64 t, .slice B m e] 25)) W) => noDesc_is A B n m c e s t l r (by omega) (by omega) W (hG.ext (Ext.trans E1 hW)) (h.ext (Ext.trans E1 hW)) (h'.ext (Ext.trans E1 hW)))
  have HG := Lib.hid (fun W (hW : Ext w W) => hG.ext hW)
  have B1 := Blk.new w #[.int .i64 s, .slice A n c, .int .i64 t, .slice B m e] 25
  by_cases hr : rightB ⟨s, l, t, r⟩ = true
  · have hR := right_of hr
    obtain ⟨S, rfl⟩ : ∃ k : Nat, s = k := ⟨s.toNat, by have : 0 ≤ s := hR.s0; omega⟩
    obtain ⟨T, rfl⟩ : ∃ k : Nat, t = k := ⟨t.toNat, by have : 0 ≤ t := hR.e0; omega⟩
    have hS : (S : Int) ≤ 1024 := hR.s1
    have hT' : (T : Int) ≤ 256 := hR.e1
    have hp : ∀ x ∈ l, 0 ≤ x ∧ x ≤ 2000 := fun x hx => by have := hR.pp x hx; have h2 : x < (S : Int) := this.2.1; omega
    have hq : ∀ x ∈ r, 0 ≤ x ∧ x ≤ 2000 := fun x hx => by have := hR.qq x hx; have h2 : x < (T : Int) := this.2.1; omega
    have R1 := Lib.hid (fun W (hW : Ext (w.alloc (.cells #[.int .i64 (S : Int), .slice A n c, .int .i64 (T : Int), .slice B m e] 25)) W) => partText_is S A n c l (by omega) hn hp W (hT.ext (Ext.trans E1 hW)) (h.ext (Ext.trans E1 hW)))
    have R2 := Lib.hid (fun W (hW : Ext (w.alloc (.cells #[.int .i64 (S : Int), .slice A n c, .int .i64 (T : Int), .slice B m e] 25)) W) => partText_is T B m e r (by omega) hm hq W (hT.ext (Ext.trans E1 hW)) (h'.ext (Ext.trans E1 hW)))
    have z1 : (partS S (l.map Int.toNat)).length ≤ 10000 := by
      have := wrS_len S l (by omega) hp l.length (Nat.le_refl _)
      rw [wrS_end, h.1] at this; omega
    have z2 : (partS T (r.map Int.toNat)).length ≤ 10000 := by
      have := wrS_len T r (by omega) hq r.length (Nat.le_refl _)
      rw [wrS_end, h'.1] at this; omega
    have s1 : (ByteArray.mk (partS S (l.map Int.toNat)).toArray).size ≤ 10000 := by show (partS S (l.map Int.toNat)).toArray.size ≤ _; simpa using z1
    have s2 : (ByteArray.mk (partS T (r.map Int.toNat)).toArray).size ≤ 10000 := by show (partS T (r.map Int.toNat)).toArray.size ≤ _; simpa using z2
    have s3 : (ByteArray.mk (partS S (l.map Int.toNat)).toArray ++ ⟨#[59, 32]⟩).size ≤ 10002 := by rw [ByteArray.size_append]; have : (ByteArray.mk #[59, 32]).size = 2 := rfl; omega
    have HN := Lib.hid (show Value.tuple #[.string (ByteArray.mk (partS S (l.map Int.toNat)).toArray ++ ⟨#[59, 32]⟩ ++ ⟨(partS T (r.map Int.toNat)).toArray⟩), .int .i64 0] = .tuple #[tvv (textV ⟨S, l, T, r⟩), .int .i64 (textE ⟨S, l, T, r⟩)] by
      rw [textV, textE, if_pos hr, if_pos hr, show ByteArray.mk #[59, 32] = ⟨[59, 32].toArray⟩ from rfl, cat_tv, cat_tv]
      simp [textS])
    rw [hr] at RR
    clear hr hR hS hT' hp hq z1 z2 h h' E1 hG hT
    generalize ByteArray.mk (partS S (l.map Int.toNat)).toArray = P1 at *
    generalize ByteArray.mk (partS T (r.map Int.toNat)).toArray = P2 at *
    go_enter Tryz.func40, Tryz.ntmps40
    go_wp2_with (first | (go_at_call 53; (with_reducible refine (RR.out _ (Ext.refl _)).mono ?_); rintro e w1 ⟨⟨v, rfl, hv⟩, k1⟩; obtain rfl := code_nil hv rfl; clear hv) | (go_at_call 52; (refine (told1_is 0 .nilIface _ 48 _ (HG.out _ (Ext.trans (Ext.trans HE.out k1) (ext1 _ _))) (Blk.new _ _ _) code_0).mono ?_); rintro e w2 ⟨rfl, k2⟩))
    have k3 : Ext (w.alloc (.cells #[.int .i64 (S : Int), .slice A n c, .int .i64 (T : Int), .slice B m e] 25)) w2 := Ext.trans k1 (Ext.trans (ext1 _ _) k2)
    have C0 := on_cell ((B1.ext k3).cell 0)
    have C1 := on_cell ((B1.ext k3).cell 1)
    have C2 := on_cell ((B1.ext k3).cell 2)
    have C3 := on_cell ((B1.ext k3).cell 3)
    refine wp_region_on (by kernel_rfl) (by kernel_rfl) ?_
    repeat (go_big_quiet_step (first | (go_at_call 54; with_reducible exact on_call (fun W hW => R1.out W (Ext.trans k3 hW)) _) | (go_at_call 54; with_reducible exact on_call (fun W hW => R2.out W (Ext.trans k3 hW)) _)))
    refine wpQuiet_nil ?_
    intro W hW
    go_wp2
    go_ret2
    exact ⟨ret_val HN.out, Ext.trans HE.out (Ext.trans k3 hW)⟩
  · have hr' : rightB ⟨s, l, t, r⟩ = false := by simpa using hr
    have HN := Lib.hid (show Value.tuple #[.string ⟨#[]⟩, .int .i64 40] = .tuple #[tvv (textV ⟨s, l, t, r⟩), .int .i64 (textE ⟨s, l, t, r⟩)] by rw [textV, textE, if_neg hr, if_neg hr])
    rw [hr'] at RR
    clear hr hr' h h' E1 hG hT
    go_enter Tryz.func40, Tryz.ntmps40
    go_wp2_with (first | (go_at_call 53; (with_reducible refine (RR.out _ (Ext.refl _)).mono ?_); rintro e w1 ⟨⟨v, rfl, hv⟩, k1⟩; have HV := Lib.hid (show Code v 40 from hv); obtain ⟨te, pe, rfl⟩ := code_err HV.out (by decide); clear hv) | (go_at_call 52; (refine (told1_is 40 _ _ 48 _ (HG.out _ (Ext.trans (Ext.trans HE.out k1) (ext1 _ _))) (Blk.new _ _ _) HV.out).mono ?_); rintro e w2 ⟨rfl, k2⟩))
    go_ret2
    exact ⟨ret_val HN.out, Ext.trans HE.out (Ext.trans k1 (Ext.trans (ext1 _ _) k2))⟩
end
end Go.Proofs.YtopgbggighaknaaGreatDoor
/- selionref04: Num, part, Print. -/
namespace Go.Proofs.YtopgbggighaknaaGreatDoor
open Go.RowKit Go
/-- A text. -/
def sv (l : List UInt8) : Value := .string ⟨l.toArray⟩
theorem numS_len : ∀ n, n ≤ 1000000 → (numS n).length ≤ 7 := by
  have h : ∀ k n, n < 10 ^ (k + 1) → (numS n).length ≤ k + 1 := by
    intro k
    induction k with
    | zero => intro n hn; rw [numS, dif_pos (by simpa using hn)]; simp
    | succ k ih =>
      intro n hn
      rw [numS]
      split
      · simp
      · have := ih (n / 10) (by rw [Nat.pow_succ] at hn; omega)
        simp; omega
  intro n hn
  exact h 6 n (by omega)
theorem dig_cut : ∀ n : Fin 10, (ByteArray.mk #[48, 49, 50, 51, 52, 53, 54, 55, 56, 57]).extract n.1 (n.1 + 1) = ⟨#[dg n.1]⟩ := by decide
theorem cat_sv (a b : List UInt8) : (⟨a.toArray⟩ : ByteArray) ++ ⟨b.toArray⟩ = ⟨(a ++ b).toArray⟩ := by
  apply ByteArray.ext
  simp
section
set_option maxHeartbeats 4000000 in
set_option maxRecDepth 100000 in
theorem num_is : ∀ (n : Nat) (_ : n ≤ 1000000) (w : World),
    Calls Tryz.prog 68 #[.int .i64 n] w fun e w' => e = .returned (sv (numS n)) ∧ Ext w w' := by
  intro n
  induction n using Nat.strongRecOn with
  | _ n ih =>
  intro hn w
  by_cases h : n < 10
  · have e1 : numS n = [dg n] := by rw [numS, dif_pos h]
    have e2 := dig_cut ⟨n, h⟩
    have d1 : decide ((n : Int) < 10) = true := decide_eq_true (by omega)
    have d1' : decide (n < 10) = true := decide_eq_true (by omega)
    rw [e1]
    simp only at e2
    clear ih e1
    go_enter Tryz.func68, Tryz.ntmps68
    go_wp2
    go_ret
    exact ⟨rfl, Ext.refl _⟩
  · have e1 : numS n = numS (n / 10) ++ [dg (n % 10)] := by rw [numS, dif_neg h]
    have e2 := dig_cut ⟨n % 10, by omega⟩
    have d1 : decide ((n : Int) < 10) = false := decide_eq_false (by omega)
    have d1' : decide (n < 10) = false := decide_eq_false (by omega)
    have q0 : ((n / 10 : Nat) : Int) = (n : Int) / 10 := by omega
    have q1 : ((n % 10 : Nat) : Int) = (n : Int) % 10 := by omega
    have q2 : (n : Int) % 10 + 1 ≤ 10 := by omega
    have q3 : 0 ≤ (n : Int) % 10 := by omega
    have RN := Lib.hid (fun W => ih (n / 10) (by omega) (by omega) W)
    have HN := Lib.hid e1
    rw [q0] at RN
    simp only at e2
    have h7 := numS_len (n / 10) (by omega)
    unfold sv at RN
    have hsz : (ByteArray.mk (numS (n / 10)).toArray).size ≤ 100 := by show (numS (n / 10)).toArray.size ≤ 100; simp; omega
    have HX := Lib.hid (show sv (numS n) = .string ((ByteArray.mk (numS (n / 10)).toArray) ++ ⟨#[dg (n % 10)]⟩) by rw [e1, sv, show (ByteArray.mk #[dg (n % 10)]) = ⟨[dg (n % 10)].toArray⟩ from rfl, cat_sv])
    generalize ByteArray.mk (numS (n / 10)).toArray = X at *
    clear ih e1 h7
    go_enter Tryz.func68, Tryz.ntmps68
    go_wp2
    refine wp_region_on (by kernel_rfl) (by kernel_rfl) ?_
    repeat (go_big_quiet_step ((go_at_call 68; exact on_call (fun W _ => RN.out W) _)))
    refine wpQuiet_nil ?_
    intro W hW
    go_wp2
    go_ret
    exact ⟨ret_val HX.out.symm, hW⟩

/-- The text of a part, as far as k places. -/
def preT (size : Nat) (l : List Int) (k : Nat) : List UInt8 := numS size ++ 58 :: (l.take k).flatMap fun x => 32 :: numS x.toNat
theorem preT_zero (size : Nat) (l : List Int) : preT size l 0 = numS size ++ [58] := by simp [preT]
theorem preT_succ (size : Nat) (l : List Int) (k : Nat) (hk : k < l.length) : preT size l (k + 1) = preT size l k ++ 32 :: numS (l.getD k 0).toNat := by
  unfold preT
  rw [List.take_add_one, List.getElem?_eq_getElem hk, List.flatMap_append, List.getD_eq_getElem?_getD, List.getElem?_eq_getElem hk]
  simp
theorem preT_end (size : Nat) (l : List Int) (k : Nat) (hk : l.length ≤ k) : preT size l k = partS size (l.map Int.toNat) := by
  unfold preT partS
  rw [List.take_of_length_le hk, List.flatMap_map]
theorem preT_len (size : Nat) (l : List Int) (hs : size ≤ 1000000) (hl : ∀ x ∈ l, x ≤ 1000000) (k : Nat) : (preT size l k).length ≤ 8 + 8 * k := by
  induction k with
  | zero => rw [preT_zero]; have := numS_len size hs; simp; omega
  | succ k ih =>
    by_cases hk : k < l.length
    · rw [preT_succ size l k hk]
      have hx : l.getD k 0 ≤ 1000000 := by rw [List.getD_eq_getElem?_getD, List.getElem?_eq_getElem hk]; exact hl _ (List.getElem_mem hk)
      have := numS_len (l.getD k 0).toNat (by omega)
      simp only [List.length_append, List.length_cons]; omega
    · rw [show preT size l (k + 1) = preT size l k by unfold preT; rw [List.take_of_length_le (by omega), List.take_of_length_le (by omega)]]
      omega
set_option maxHeartbeats 4000000 in
set_option maxRecDepth 100000 in
theorem part_is (A : Option Addr) (n c : Nat) (l : List Int) (size : Nat) (hn : n ≤ 1000) (hs : size ≤ 1000000) (hl : ∀ x ∈ l, 0 ≤ x ∧ x ≤ 1000000) (w : World) (h : Il w A n l) :
    Calls Tryz.prog 56 #[.int .i64 size, .slice A n c] w fun e w' => e = .returned (sv (partS size (l.map Int.toNat))) ∧ Ext w w' := by
  have H := Lib.hid h
  have HL := Lib.hid (fun k => preT_len size l hs (fun x hx => (hl x hx).2) k)
  have RN := Lib.hid (fun W => num_is size hs W)
  have hx1 := numS_len size hs
  have hsz : (ByteArray.mk (numS size).toArray).size ≤ 100 := by show (numS size).toArray.size ≤ 100; simp; omega
  have HX := Lib.hid (show ByteArray.mk (numS size).toArray ++ ⟨#[58]⟩ = ⟨(preT size l 0).toArray⟩ by rw [preT_zero, ← cat_sv])
  unfold sv at RN
  generalize ByteArray.mk (numS size).toArray = Z at *
  clear h hx1
  go_enter Tryz.func56, Tryz.ntmps56
  go_wp2_with (go_at_call 68; with_reducible refine (RN.out _).mono ?_; rintro e w1 ⟨rfl, k1⟩)
  have HE := Lib.hid k1
  clear k1 RN
  go_loopg [5, 6] n (fun m v i wr => ∃ k : Nat, k + m = n ∧ i = .int .i64 k ∧ v = sv (preT size l k) ∧ Ext w1 wr)
  case atStart => exact ⟨0, by omega, rfl, by rw [HX.out]; rfl, Ext.refl _⟩
  case round =>
    obtain ⟨k, hk, rfl, rfl, hE⟩ := hrel
    unfold sv
    by_cases hlt : k < n
    · obtain ⟨ad, rfl, hb, hcell⟩ := (H.out.ext (Ext.trans HE.out hE)).at_ hlt
      have ck := hcell k hlt
      have h5 : (k : Int) < n := by omega
      have h6 : (k : Int) + 1 ≤ 1000000 := by omega
      have hkl : k < l.length := by rw [H.out.1]; exact hlt
      have hx := hl (l.getD k 0) (by rw [List.getD_eq_getElem?_getD, List.getElem?_eq_getElem hkl]; exact List.getElem_mem hkl)
      have ht := preT_succ size l k hkl
      generalize l.getD k 0 = y at *
      obtain ⟨y, rfl⟩ : ∃ j : Nat, y = j := ⟨y.toNat, by omega⟩
      have RN := Lib.hid (fun W => num_is y (by omega) W)
      unfold sv at RN
      have l1 := numS_len y (by omega)
      have l2 := HL.out k
      have s1 : (ByteArray.mk (preT size l k).toArray).size ≤ 20000 := by show (preT size l k).toArray.size ≤ 20000; simp; omega
      have s2 : (ByteArray.mk (numS y).toArray).size ≤ 100 := by show (numS y).toArray.size ≤ 100; simp; omega
      have s3 : (ByteArray.mk (preT size l k).toArray ++ ⟨#[32]⟩).size ≤ 20001 := by rw [ByteArray.size_append]; have : (ByteArray.mk #[32]).size = 1 := rfl; omega
      have HX2 := Lib.hid (show ByteArray.mk (preT size l k).toArray ++ ⟨#[32]⟩ ++ ⟨(numS y).toArray⟩ = ⟨(preT size l (k + 1)).toArray⟩ by rw [ht, show ByteArray.mk #[32] = ⟨[32].toArray⟩ from rfl, cat_sv, cat_sv]; simp)
      have HH := Lib.hid (And.intro hE hk)
      generalize ByteArray.mk (preT size l k).toArray = P1 at *
      generalize ByteArray.mk (numS y).toArray = P2 at *
      clear hE hcell hk ht hkl l1 l2
      go_wp2_with (go_at_call 68; with_reducible refine (RN.out _).mono ?_; rintro e w2 ⟨rfl, k2⟩)
      go_roundg (gk - 1)
      case measure => have := HH.out.2; omega
      case rel => exact ⟨k + 1, by have := HH.out.2; omega, by go_num, by rw [HX2.out]; rfl, Ext.trans HH.out.1 k2⟩
    · obtain rfl : k = n := by omega
      have h5 : ¬ (k : Int) < k := by omega
      have HN := Lib.hid (preT_end size l k (by rw [H.out.1]; exact Nat.le_refl _))
      have HH := Lib.hid hE
      clear hE hk
      generalize hP : ByteArray.mk (preT size l k).toArray = P1 at *
      have HP := Lib.hid hP
      clear hP
      go_wp2
      go_ret
      exact ⟨ret_val (show Value.string P1 = sv _ by rw [← HN.out, sv, HP.out]), Ext.trans HE.out HH.out⟩
end
end Go.Proofs.YtopgbggighaknaaGreatDoor
/- selionref04: Print. -/
namespace Go.Proofs.YtopgbggighaknaaGreatDoor
open Go.RowKit Go
section
set_option maxHeartbeats 1000000 in
set_option maxRecDepth 100000 in
theorem print_is (A B : Option Addr) (n m c e : Nat) (s t : Int) (l r : List Int) (hn : n ≤ 1000) (hm : m ≤ 1000) (w : World) (h : Il w A n l) (h' : Il w B m r) :
    Calls Tryz.prog 43 #[.agg #[.int .i64 s, .slice A n c, .int .i64 t, .slice B m e]] w fun e w' => e = .returned (.tuple #[sv (textV ⟨s, l, t, r⟩), .int .i64 (textE ⟨s, l, t, r⟩)]) ∧ Ext w w' := by
  have E1 := ext1 w (.cells #[.int .i64 s, .slice A n c, .int .i64 t, .slice B m e] 25)
  have HE := Lib.hid E1
  have RR := Lib.hid (fun W (hW : Ext (w.alloc (.cells #[.int .i64 s, .slice A n c, .int .i64 t, .slice B m e] 25)) W) => right_is A B n m c e s t l r (by omega) (by omega) W (h.ext (Ext.trans E1 hW)) (h'.ext (Ext.trans E1 hW)))
  by_cases hr : rightB ⟨s, l, t, r⟩ = true
  · have hR := right_of hr
    obtain ⟨S, rfl⟩ : ∃ k : Nat, s = k := ⟨s.toNat, by have : 0 ≤ s := hR.s0; omega⟩
    obtain ⟨T, rfl⟩ : ∃ k : Nat, t = k := ⟨t.toNat, by have : 0 ≤ t := hR.e0; omega⟩
    have hS : (S : Int) ≤ 1024 := hR.s1
    have hT : (T : Int) ≤ 256 := hR.e1
    have hp : ∀ x ∈ l, 0 ≤ x ∧ x ≤ 1000000 := fun x hx => by have := hR.pp x hx; have h2 : x < (S : Int) := this.2.1; omega
    have hq : ∀ x ∈ r, 0 ≤ x ∧ x ≤ 1000000 := fun x hx => by have := hR.qq x hx; have h2 : x < (T : Int) := this.2.1; omega
    have R1 := Lib.hid (fun W (hW : Ext (w.alloc (.cells #[.int .i64 (S : Int), .slice A n c, .int .i64 (T : Int), .slice B m e] 25)) W) => part_is A n c l S hn (by omega) hp W (h.ext (Ext.trans E1 hW)))
    have R2 := Lib.hid (fun W (hW : Ext (w.alloc (.cells #[.int .i64 (S : Int), .slice A n c, .int .i64 (T : Int), .slice B m e] 25)) W) => part_is B m e r T hm (by omega) hq W (h'.ext (Ext.trans E1 hW)))
    have z1 : (partS S (l.map Int.toNat)).length ≤ 10000 := by
      have := preT_len S l (by omega) (fun x hx => (hp x hx).2) l.length
      rw [preT_end S l _ (Nat.le_refl _), h.1] at this; omega
    have z2 : (partS T (r.map Int.toNat)).length ≤ 10000 := by
      have := preT_len T r (by omega) (fun x hx => (hq x hx).2) r.length
      rw [preT_end T r _ (Nat.le_refl _), h'.1] at this; omega
    have s1 : (ByteArray.mk (partS S (l.map Int.toNat)).toArray).size ≤ 10000 := by show (partS S (l.map Int.toNat)).toArray.size ≤ _; simpa using z1
    have s2 : (ByteArray.mk (partS T (r.map Int.toNat)).toArray).size ≤ 10000 := by show (partS T (r.map Int.toNat)).toArray.size ≤ _; simpa using z2
    have s3 : (ByteArray.mk (partS S (l.map Int.toNat)).toArray ++ ⟨#[59, 32]⟩).size ≤ 10002 := by rw [ByteArray.size_append]; have : (ByteArray.mk #[59, 32]).size = 2 := rfl; omega
    have HN := Lib.hid (show Value.tuple #[.string (ByteArray.mk (partS S (l.map Int.toNat)).toArray ++ ⟨#[59, 32]⟩ ++ ⟨(partS T (r.map Int.toNat)).toArray⟩), .int .i64 0] = .tuple #[sv (textV ⟨S, l, T, r⟩), .int .i64 (textE ⟨S, l, T, r⟩)] by
      rw [textV, textE, if_pos hr, if_pos hr, sv, show ByteArray.mk #[59, 32] = ⟨[59, 32].toArray⟩ from rfl, cat_sv, cat_sv]
      simp [textS])
    rw [hr] at RR
    unfold sv at R1 R2
    have B1 := Blk.new w #[.int .i64 (S : Int), .slice A n c, .int .i64 (T : Int), .slice B m e] 25
    clear hr hR hS hT hp hq z1 z2 h h' E1
    generalize ByteArray.mk (partS S (l.map Int.toNat)).toArray = P1 at *
    generalize ByteArray.mk (partS T (r.map Int.toNat)).toArray = P2 at *
    go_enter Tryz.func43, Tryz.ntmps43
    go_wp2_with (go_at_call 34; with_reducible refine (RR.out _ (Ext.refl _)).mono ?_; rintro e w1 ⟨rfl, k1⟩)
    have C0 := on_cell ((B1.ext k1).cell 0)
    have C1 := on_cell ((B1.ext k1).cell 1)
    have C2 := on_cell ((B1.ext k1).cell 2)
    have C3 := on_cell ((B1.ext k1).cell 3)
    refine wp_region_on (by kernel_rfl) (by kernel_rfl) ?_
    repeat (go_big_quiet_step (first | (go_at_call 56; with_reducible exact on_call (fun W hW => R1.out W (Ext.trans k1 hW)) _) | (go_at_call 56; with_reducible exact on_call (fun W hW => R2.out W (Ext.trans k1 hW)) _)))

    refine wpQuiet_nil ?_
    intro W hW
    go_wp2
    go_ret2
    exact ⟨ret_val HN.out, Ext.trans HE.out (Ext.trans k1 hW)⟩
  · have hr' : rightB ⟨s, l, t, r⟩ = false := by simpa using hr
    have HN := Lib.hid (show Value.tuple #[.string ⟨#[]⟩, .int .i64 40] = .tuple #[sv (textV ⟨s, l, t, r⟩), .int .i64 (textE ⟨s, l, t, r⟩)] by rw [textV, textE, if_neg hr, if_neg hr]; rfl)
    rw [hr'] at RR
    clear hr hr' h h' E1
    go_enter Tryz.func43, Tryz.ntmps43
    go_wp2_with (go_at_call 34; with_reducible refine (RR.out _ (Ext.refl _)).mono ?_; rintro e w1 ⟨rfl, k1⟩)
    go_ret2
    exact ⟨ret_val HN.out, Ext.trans HE.out k1⟩
end
end Go.Proofs.YtopgbggighaknaaGreatDoor
