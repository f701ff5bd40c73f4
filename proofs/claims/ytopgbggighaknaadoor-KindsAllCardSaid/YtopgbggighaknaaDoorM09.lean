/- Joined texts, in their order: Build, PrintD, NumR, PrintR, NumbR, ParseR, Kinds. -/
import Derived.Test.YtopgbggighaknaaDoorShelf
import Derived.Test.YtopgbggighaknaaDoorChecked
import Derived.WalkKit
import Derived.WalkSpells
import Derived.WalkLawsBesides
import Derived.Test.YtopgbggighaknaaDoorM07
import Derived.Test.YtopgbggighaknaaDoorM03
import Derived.Lib.AppendIntMem
import Derived.Test.YtopgbggighaknaaDoorM05
import Derived.Test.YtopgbggighaknaaDoorM06
/- (*strings.Builder).copyCheck, WriteString at this translation. -/
namespace Go.Proofs.YtopgbggighaknaaDoor
open Go.RowKit Go
theorem sizeBuilder : (Tryd.prog.info? 56).map (·.size) = some 2 := by kernel_rfl
set_option maxHeartbeats 1000000 in
set_option maxRecDepth 100000 in
theorem copyCheck_used (b : Nat) (w : World) (h0 : w.cell? ⟨b, 0, none⟩ = some (.pointer (some ⟨b, 0, none⟩))) :
    Calls Tryd.prog 34 #[.pointer (some ⟨b, 0, none⟩)] w fun e w' => e = .returned (.tuple #[]) ∧ w' = w := by
  obtain ⟨j, hj, _⟩ := Option.map_eq_some_iff.1 sizeBuilder
  go_enter Tryd.func34, Tryd.ntmps34
  go_wp2
  rw [Lib.run_neq_ptr_same w _ Tryd.underlying53 hj]
  go_wp2
  go_end0
  exact ⟨rfl, rfl⟩
set_option maxHeartbeats 1000000 in
set_option maxRecDepth 100000 in
theorem copyCheck_fresh (b : Nat) (w : World) (h0 : w.cell? ⟨b, 0, none⟩ = some (.pointer none)) (hsh : w.shape? b = some (56, 2)) (hfz : w.frozen? ⟨b, 0, none⟩ = false) :
    Calls Tryd.prog 34 #[.pointer (some ⟨b, 0, none⟩)] w fun e w' => e = .returned (.tuple #[]) ∧ w' = w.setCell ⟨b, 0, none⟩ (.pointer (some ⟨b, 0, none⟩)) := by
  obtain ⟨j, hj, hjs⟩ := Option.map_eq_some_iff.1 sizeBuilder
  go_enter Tryd.func34, Tryd.ntmps34
  go_wp2
  rw [Lib.run_to_unsafe w ⟨b, 0, none⟩ Tryd.underlying53 Tryd.underlying81 hj (by rw [hjs]; decide) hsh (Nat.zero_lt_succ 1)]
  simp only [Result.andThen]
  rw [Oper.upon_value]
  go_wp2
  rw [run_callFunc_extern Tryd.func43 (by kernel_rfl) (by kernel_rfl) (by kernel_rfl) (e := Extern.AbiNoEscape.same) (by kernel_rfl)]
  rw [Lib.run_noEscape]
  simp only [Result.andThen]
  rw [Oper.upon_value]
  go_wp2
  rw [Lib.run_from_unsafe w ⟨b, 0, none⟩ Tryd.underlying81 Tryd.underlying53 hj hsh Tryd.Builder_Extra_169.liesBuilder]
  simp only [Result.andThen]
  rw [Oper.upon_value]
  go_wp2
  go_end0
  exact ⟨rfl, rfl⟩
abbrev IsB (B b : Nat) (l : List UInt8) (w : World) : Prop := Lib.IsBuilder 56 5 B b (Lib.byteCells l) w
theorem copyCheck_is (B b : Nat) (l : List UInt8) (w : World) (h : IsB B b l w) :
    Calls Tryd.prog 34 #[.pointer (some ⟨b, 0, none⟩)] w fun e w' => e = .returned (.tuple #[]) ∧ (Lib.BuilderAt 56 5 B b (.pointer (some ⟨b, 0, none⟩)) (Lib.byteCells l) w' ∧ Below B w w') := by
  rcases h with h | h
  · refine (copyCheck_fresh b w h.cell0 h.shape h.frozen0).mono ?_
    rintro e w' ⟨rfl, rfl⟩
    exact ⟨rfl, h.used _, (Below.refl B w).setCell (p := ⟨b, 0, none⟩) h.1 _⟩
  · refine (copyCheck_used b w h.cell0).mono ?_
    rintro e w' ⟨rfl, rfl⟩
    exact ⟨rfl, h, Below.refl B _⟩
theorem strCells_bytes (s : List UInt8) : Lib.strCells ⟨s.toArray⟩ = Lib.byteCells s := by simp [Lib.strCells, Lib.byteCells]
theorem infoU8 : (Tryd.prog.info? 5).map (fun i => (i.zero, i.size, i.bytes)) = some (some (.int .u8 0), 1, 1) := by kernel_rfl
set_option maxHeartbeats 2000000 in
set_option maxRecDepth 100000 in
theorem writeString_is (B b : Nat) (l s : List UInt8) (w : World) (h : IsB B b l w) (hlen : l.length + s.length ≤ 1000000) (hBw : B ≤ w.heap.size) :
    Calls Tryd.prog 24 #[.pointer (some ⟨b, 0, none⟩), .string ⟨s.toArray⟩] w fun e w' => e = .returned (.tuple #[.int .i64 (s.length : Nat), .nilIface]) ∧ IsB B b (l ++ s) w' ∧ Below B w w' := by
  obtain ⟨i0, hi, hz⟩ := Option.map_eq_some_iff.1 infoU8
  simp only [Prod.mk.injEq] at hz
  obtain ⟨hz0, hz1, hz2⟩ := hz
  have hsz : (ByteArray.mk s.toArray).size = s.length := by show s.toArray.size = _; simp
  have hcl : (Lib.byteCells l).length = l.length := by simp [Lib.byteCells]
  have hcl2 : (Lib.strCells ⟨s.toArray⟩).length = s.length := by rw [strCells_bytes]; simp [Lib.byteCells]
  go_enter Tryd.func24, Tryd.ntmps24
  go_wp2_with (go_at_call 34; refine (copyCheck_is B b l _ h).mono ?_)
  rintro e w1 ⟨rfl, h1, hb1⟩
  obtain ⟨hB, v, hbk, hown, hne⟩ := h1
  have c0 : w1.cell? ⟨b, 0, none⟩ = some (.pointer (some ⟨b, 0, none⟩)) := by rw [Lib.cell_of_heap hbk]; rfl
  have c1 : w1.cell? ⟨b, 1, none⟩ = some v := by rw [Lib.cell_of_heap hbk]; rfl
  go_wp2_with (at_builtin; refine Lib.wpList_append_own_string _ rfl _ _ 54 9 rfl B 5 i0 Tryd.underlying54 Tryd.underlying9 hi hz0 hz1 hz2 _ _ _ rfl hown ⟨s.toArray⟩ rfl ?c3 ?c4 ?c5 ?_)
  case c3 => rw [hcl, hsz]; unfold maxLen; omega
  case c4 => rw [hcl, hsz]; omega
  case c5 => have := hb1.size; omega
  intro v' w2 hown' hgrow _
  have hlt : b < w1.heap.size := by
    rcases Nat.lt_or_ge b w1.heap.size with h' | h'
    · exact h'
    · simp [Array.getElem?_eq_none h'] at hbk
  have hb2 : w2.heap[b]? = some (.cells #[.pointer (some ⟨b, 0, none⟩), v] 56 (0, 0)) := by
    rw [hgrow.block b hlt (fun e => hne e.symm)]
    exact hbk
  have d0 : w2.cell? ⟨b, 0, none⟩ = some (.pointer (some ⟨b, 0, none⟩)) := by rw [Lib.cell_of_heap hb2]; rfl
  have d1 : w2.cell? ⟨b, 1, none⟩ = some v := by rw [Lib.cell_of_heap hb2]; rfl
  have f1 : w2.frozen? ⟨b, 1, none⟩ = false := Lib.frozen_of_heap hb2 1
  obtain ⟨ao, n', cap, rfl⟩ : ∃ ao n' cap, v' = .slice ao n' cap := by
    rcases hown'.2 with ⟨hv, _⟩ | ⟨g, cap, cur, hv, _⟩
    · exact ⟨_, _, _, hv⟩
    · exact ⟨_, _, _, hv⟩
  go_wp2
  go_ret2
  have hl2 : Lib.byteCells (l ++ s) = Lib.byteCells l ++ Lib.strCells ⟨s.toArray⟩ := by rw [strCells_bytes]; simp [Lib.byteCells]
  refine ⟨?_, .inr ?_, ?_⟩
  · first | rfl | (rw [← hsz]; rfl)
  · rw [hl2]
    exact Lib.BuilderAt.put (T := 56) (e := 5) hB hb2 (bs' := Lib.byteCells l ++ Lib.strCells ⟨s.toArray⟩) (by rw [List.length_append, hcl, hcl2]; simpa [hcl, hsz] using hown') (by decide)
  · exact (hb1.grown hgrow (by have := hb1.size; omega) (fun k hk => (hown.lt k hk).1)).setCell (p := ⟨b, 1, none⟩) hB _
end Go.Proofs.YtopgbggighaknaaDoor
/- desc: partText, Print. desc: Print. -/
namespace Go.Proofs.YtopgbggighaknaaDoor
open Go.RowKit Go
theorem dec_num : ∀ n, Lib.decDigits n = numS n := by
  intro n
  induction n using Nat.strongRecOn with
  | _ n ih =>
    rw [Lib.decDigits, numS]
    split
    · rfl
    · rw [ih (n / 10) (by omega)]; rfl
theorem itoa_num (n : Nat) : Lib.itoa (n : Int) = numS n := by rw [← dec_num]; unfold Lib.itoa; rw [if_neg (by omega)]; simp
theorem numS_le5 (n : Nat) (h : n < 100000) : (numS n).length ≤ 5 := by
  rw [numS]; split
  · simp
  · rw [List.length_append, numS]; split
    · simp
    · rw [List.length_append, numS]; split
      · simp
      · rw [List.length_append, numS]; split
        · simp
        · rw [List.length_append, numS]; split
          · simp
          · omega
theorem ext_grow (w : World) (k : Nat) (os : Array Obj) : Ext w (Sort.grow (w.drewN k) os) := by
  have h : Ext (w.drewN k) (Sort.grow (w.drewN k) os) := ⟨rfl, rfl, rfl, by simp [Sort.grow], fun i hi => by
    have hi' : i < w.heap.size := by simpa using hi
    simp [Sort.grow, Array.getElem?_append]; omega⟩
  exact Ext.trans (ext_drewN' w k) h
def HTab (w : World) : Prop := Lib.TabBelow Tryd.prog w.heap.size w "internal/strconv.uint64pow10" .u64 Lib.pow10Tab
theorem HTab.ext {w w' : World} (h : HTab w) (k : Ext w w') : HTab w' := fun w'' k2 => h w'' (Ext.trans k k2)
theorem itoa_is (n : Nat) (hn : n ≤ 1000000) (w : World) (h : HTab w) :
    Calls Tryd.prog 42 #[.int .i64 n] w fun e w' => e = .returned (.string ⟨(numS n).toArray⟩) ∧ Ext w w' := by
  refine (Tryd.strconv_Itoa n (by omega) (by omega) w (h w (Ext.refl _))).mono ?_
  rintro e w' ⟨rfl, k, os, rfl⟩
  exact ⟨by rw [itoa_num], ext_grow _ _ _⟩
theorem IsB.ext {B b : Nat} {l : List UInt8} {w w' : World} (h : IsB B b l w) (k : Ext w w') : IsB B b l w' := by
  have : ∀ p, Lib.BuilderAt 56 5 B b p (Lib.byteCells l) w → Lib.BuilderAt 56 5 B b p (Lib.byteCells l) w' := by
    rintro p ⟨hB, v, hbk, hown, hne⟩
    exact ⟨hB, v, (k.block b (Array.getElem?_eq_some_iff.1 hbk).1).trans hbk, own_ext hown k, hne⟩
  rcases h with h | h
  · exact .inl (this _ h)
  · exact .inr (this _ h)
/-- What has been written by the k-th. -/
def wrS (size : Nat) (l : List Int) (k : Nat) : List UInt8 := numS size ++ 58 :: (l.take k).flatMap fun x => 32 :: numS x.toNat
theorem wrS_zero (size : Nat) (l : List Int) : wrS size l 0 = numS size ++ [58] := by simp [wrS]
theorem wrS_succ (size : Nat) (l : List Int) (k : Nat) (hk : k < l.length) : wrS size l (k + 1) = wrS size l k ++ [32] ++ numS (l.getD k 0).toNat := by
  unfold wrS
  have e : l.take (k + 1) = l.take k ++ [l.getD k 0] := by rw [List.take_add_one, List.getD_eq_getElem?_getD, List.getElem?_eq_getElem hk]; rfl
  rw [e, List.flatMap_append]
  simp
theorem wrS_end (size : Nat) (l : List Int) : wrS size l l.length = partS size (l.map Int.toNat) := by
  unfold wrS partS
  rw [List.take_length]
  simp [List.flatMap_map]
theorem wrS_len (size : Nat) (l : List Int) (hs : size < 100000) (hl : ∀ x ∈ l, 0 ≤ x ∧ x ≤ 2000) : ∀ k, k ≤ l.length → (wrS size l k).length ≤ 6 + 6 * k
  | 0, _ => by rw [wrS_zero]; have := numS_le5 size hs; simp; omega
  | k + 1, h => by
    have ih := wrS_len size l hs hl k (by omega)
    rw [wrS_succ size l k (by omega)]
    have hm : l.getD k 0 ∈ l := by rw [List.getD_eq_getElem?_getD, List.getElem?_eq_getElem (by omega : k < l.length)]; exact List.getElem_mem _
    have := hl _ hm
    have := numS_le5 (l.getD k 0).toNat (by omega)
    simp only [List.length_append, List.length_singleton]
    omega
theorem getD_mem' {L : List Int} {k : Nat} (hk : k < L.length) : L.getD k 0 ∈ L := by rw [List.getD_eq_getElem?_getD, List.getElem?_eq_getElem hk]; exact List.getElem_mem _
section
set_option maxHeartbeats 4000000 in
theorem partText_is (size : Nat) (A : Option Addr) (n c : Nat) (l : List Int) (hs : size ≤ 2000) (hn : n ≤ 1000) (hl : ∀ x ∈ l, 0 ≤ x ∧ x ≤ 2000) (w : World) (hT : HTab w) (h : Il w A n l) :
    Calls Tryd.prog 33 #[.int .i64 size, .slice A n c] w fun e w' => e = .returned (.string ⟨(partS size (l.map Int.toNat)).toArray⟩) ∧ Ext w w' := by
  have hln : l.length = n := h.1
  have B0 : IsB w.heap.size w.heap.size [] (w.alloc (.cells #[.pointer none, .slice none 0 0] 56)) := Lib.fresh_isBuilder _ _ w
  have W := Lib.hid (fun (t s : List UInt8) (W : World) (hE : Ext w W) (hB : IsB w.heap.size w.heap.size t W) (hlen : t.length + s.length ≤ 1000000) => writeString_is w.heap.size w.heap.size t s W hB hlen hE.size)
  have I := Lib.hid (fun (k : Nat) (hk : k ≤ 1000000) (W : World) (hE : Ext w W) => itoa_is k hk W (hT.ext hE))
  have S := Lib.hid (fun (t : List UInt8) (W : World) (hE : Ext w W) (hB : IsB w.heap.size w.heap.size t W) => Tryd.Builder_String_any w.heap.size w.heap.size t W hB hE.size)
  have HL := Lib.hid (wrS_len size l (by omega) hl)
  have H := Lib.hid (And.intro h (And.intro hl (And.intro B0 hT)))
  have hns := numS_le5 size (by omega)
  clear h hl B0 hT
  go_enter Tryd.func33, Tryd.ntmps33
  go_wp2_with (first | (go_at_call 42; (refine (I.out size (by omega) _ (ext1 _ _)).mono ?_); rintro e w1 ⟨rfl, k1⟩; have K1 := Lib.hid (And.intro (Ext.trans (ext1 _ _) k1) (H.out.2.2.1.ext k1)); clear k1) | (go_at_call 24; first | ((with_reducible refine (W.out [] (numS size) _ K1.out.1 K1.out.2 (by simp; omega)).mono ?_); rintro e w2 ⟨rfl, b2, k2⟩; have K2 := Lib.hid (And.intro (Below.trans K1.out.1 k2) b2); clear k2 b2) | ((refine (W.out (numS size) [58] _ K2.out.1 K2.out.2 (by simp; omega)).mono ?_); rintro e w3 ⟨rfl, b3, k3⟩; have K3 := Lib.hid (And.intro (Below.trans K2.out.1 k3) b3); clear k3 b3)))
  go_loopg [7, 14] n (fun m v i wr => ∃ k : Nat, k + m = n ∧ i = .int .i64 k ∧ IsB w.heap.size w.heap.size (wrS size l k) wr ∧ Ext w wr)
  case atStart => exact ⟨0, by omega, rfl, by rw [wrS_zero]; exact K3.out.2, K3.out.1⟩
  case round =>
    obtain ⟨k, hk, rfl, hB, hE⟩ := hrel
    by_cases hlt : k < n
    · obtain ⟨ad, rfl, hab, hcell⟩ := (H.out.1.ext hE).at_ hlt
      have ck := hcell k hlt
      have h5 : (k : Int) < n := by omega
      have h6 : (k : Int) + 1 ≤ 1000000 := by omega
      have hm : l.getD k 0 ∈ l := getD_mem' (by omega)
      have hx := H.out.2.1 _ hm
      have hw := wrS_succ size l k (by omega)
      have hwl := HL.out k (by omega)
      have HH := Lib.hid (And.intro hE (And.intro hB (And.intro hw hk)))
      clear hE hB hw hcell hm hk
      generalize l.getD k 0 = x at *
      obtain ⟨X, rfl⟩ : ∃ y : Nat, x = y := ⟨x.toNat, by omega⟩
      have hnx := numS_le5 X (by omega)
      go_wp2_with (first | (go_at_call 24; first | ((with_reducible refine (W.out (wrS size l k ++ [32]) (numS X) _ K5.out.1 K5.out.2 (by simp only [List.length_append, List.length_singleton]; omega)).mono ?_); rintro e w6 ⟨rfl, b6, k6⟩; have K6 := Lib.hid (And.intro (Below.trans K5.out.1 k6) b6); clear k6 b6) | ((refine (W.out (wrS size l k) [32] _ HH.out.1 HH.out.2.1 (by simp only [List.length_singleton]; omega)).mono ?_); rintro e w4 ⟨rfl, b4, k4⟩; have K4 := Lib.hid (And.intro (Below.trans HH.out.1 k4) b4); clear k4 b4)) | (go_at_call 42; (refine (I.out X (by omega) _ K4.out.1).mono ?_); rintro e w5 ⟨rfl, k5⟩; have K5 := Lib.hid (And.intro (Ext.trans K4.out.1 k5) (K4.out.2.ext k5)); clear k5))
      go_roundg (gk - 1)
      case measure => have := HH.out.2.2.2; omega
      case rel => exact ⟨k + 1, by have := HH.out.2.2.2; omega, by go_num, by rw [HH.out.2.2.1]; exact K6.out.2, K6.out.1⟩
    · obtain rfl : k = n := by omega
      have h5 : ¬ (k : Int) < k := by omega
      have HH := Lib.hid (And.intro hE hB)
      have HN := Lib.hid (wrS_end size l)
      clear hE hB hk
      go_wp2_with (go_at_call 25; (refine (S.out (wrS size l k) _ HH.out.1 HH.out.2).mono ?_); rintro e w4 ⟨rfl, k4⟩)
      go_ret
      refine ⟨?_, Below.trans HH.out.1 k4⟩
      rw [← HN.out, hln]; rfl
end
theorem cat_tv (a b : List UInt8) : (⟨a.toArray⟩ : ByteArray) ++ ⟨b.toArray⟩ = ⟨(a ++ b).toArray⟩ := by
  apply ByteArray.ext; rw [ByteArray.data_append]; simp
abbrev tvv (l : List UInt8) : Value := .string ⟨l.toArray⟩
section
set_option maxHeartbeats 4000000 in
set_option maxRecDepth 100000 in
theorem dprint_is (A B : Option Addr) (n m c e : Nat) (s t : Int) (l r : List Int) (hn : n ≤ 1000) (hm : m ≤ 1000) (w : World) (hG : G w) (hT : HTab w) (h : Il w A n l) (h' : Il w B m r) :
    Calls Tryd.prog 23 #[.agg #[.int .i64 s, .slice A n c, .int .i64 t, .slice B m e]] w fun e w' => e = .returned (.tuple #[tvv (textV ⟨s, l, t, r⟩), .int .i64 (textE ⟨s, l, t, r⟩)]) ∧ Ext w w' := by
  have E1 := ext1 w (.cells #[.int .i64 s, .slice A n c, .int .i64 t, .slice B m e] 27)
  have HE := Lib.hid E1
  have RR := Lib.hid (fun W (hW : Ext (w.alloc (.cells #[.int .i64 s, .slice A n c, .int .i64 t, .slice B m e] 27)) W) => noDesc_is A B n m c e s t l r (by omega) (by omega) W (hG.ext (Ext.trans E1 hW)) (h.ext (Ext.trans E1 hW)) (h'.ext (Ext.trans E1 hW)))
  have HG := Lib.hid (fun W (hW : Ext w W) => hG.ext hW)
  have B1 := Blk.new w #[.int .i64 s, .slice A n c, .int .i64 t, .slice B m e] 27
  by_cases hr : rightB ⟨s, l, t, r⟩ = true
  · have hR := right_of hr
    obtain ⟨S, rfl⟩ : ∃ k : Nat, s = k := ⟨s.toNat, by have : 0 ≤ s := hR.s0; omega⟩
    obtain ⟨T, rfl⟩ : ∃ k : Nat, t = k := ⟨t.toNat, by have : 0 ≤ t := hR.e0; omega⟩
    have hS : (S : Int) ≤ 1024 := hR.s1
    have hT' : (T : Int) ≤ 256 := hR.e1
    have hp : ∀ x ∈ l, 0 ≤ x ∧ x ≤ 2000 := fun x hx => by have := hR.pp x hx; have h2 : x < (S : Int) := this.2.1; omega
    have hq : ∀ x ∈ r, 0 ≤ x ∧ x ≤ 2000 := fun x hx => by have := hR.qq x hx; have h2 : x < (T : Int) := this.2.1; omega
    have R1 := Lib.hid (fun W (hW : Ext (w.alloc (.cells #[.int .i64 (S : Int), .slice A n c, .int .i64 (T : Int), .slice B m e] 27)) W) => partText_is S A n c l (by omega) hn hp W (hT.ext (Ext.trans E1 hW)) (h.ext (Ext.trans E1 hW)))
    have R2 := Lib.hid (fun W (hW : Ext (w.alloc (.cells #[.int .i64 (S : Int), .slice A n c, .int .i64 (T : Int), .slice B m e] 27)) W) => partText_is T B m e r (by omega) hm hq W (hT.ext (Ext.trans E1 hW)) (h'.ext (Ext.trans E1 hW)))
    have z1 : (partS S (l.map Int.toNat)).length ≤ 10000 := by
      have := wrS_len S l (by omega) hp l.length (Nat.le_refl _)
      rw [wrS_end, h.1] at this; omega
    have z2 : (partS T (r.map Int.toNat)).length ≤ 10000 := by
      have := wrS_len T r (by omega) hq r.length (Nat.le_refl _)
      rw [wrS_end, h'.1] at this; omega
    have s1 : (ByteArray.mk (partS S (l.map Int.toNat)).toArray).size ≤ 10000 := by show (partS S (l.map Int.toNat)).toArray.size ≤ _; simpa using z1
    have s2 : (ByteArray.mk (partS T (r.map Int.toNat)).toArray).size ≤ 10000 := by show (partS T (r.map Int.toNat)).toArray.size ≤ _; simpa using z2
    have s3 : (ByteArray.mk (partS S (l.map Int.toNat)).toArray ++ ⟨#[59, 32]⟩).size ≤ 10002 := by rw [ByteArray.size_append]; have : (ByteArray.mk #[59, 32]).size = 2 := rfl; omega
    have HN := Lib.hid (show Value.tuple #[.string (ByteArray.mk (partS S (l.map Int.toNat)).toArray ++ ⟨#[59, 32]⟩ ++ ⟨(partS T (r.map Int.toNat)).toArray⟩), .int .i64 0] = .tuple #[tvv (textV ⟨S, l, T, r⟩), .int .i64 (textE ⟨S, l, T, r⟩)] by
      rw [textV, textE, if_pos hr, if_pos hr, show ByteArray.mk #[59, 32] = ⟨[59, 32].toArray⟩ from rfl, cat_tv, cat_tv]
      simp [textS])
    rw [hr] at RR
    clear hr hR hS hT' hp hq z1 z2 h h' E1 hG hT
    generalize ByteArray.mk (partS S (l.map Int.toNat)).toArray = P1 at *
    generalize ByteArray.mk (partS T (r.map Int.toNat)).toArray = P2 at *
    go_enter Tryd.func23, Tryd.ntmps23
    go_wp2_with (first | (go_at_call 32; (with_reducible refine (RR.out _ (Ext.refl _)).mono ?_); rintro e w1 ⟨⟨v, rfl, hv⟩, k1⟩; obtain rfl := code_nil hv rfl; clear hv) | (go_at_call 31; (refine (told1_is 0 .nilIface _ 45 _ (HG.out _ (Ext.trans (Ext.trans HE.out k1) (ext1 _ _))) (Blk.new _ _ _) code_0).mono ?_); rintro e w2 ⟨rfl, k2⟩))
    have k3 : Ext (w.alloc (.cells #[.int .i64 (S : Int), .slice A n c, .int .i64 (T : Int), .slice B m e] 27)) w2 := Ext.trans k1 (Ext.trans (ext1 _ _) k2)
    have C0 := on_cell ((B1.ext k3).cell 0)
    have C1 := on_cell ((B1.ext k3).cell 1)
    have C2 := on_cell ((B1.ext k3).cell 2)
    have C3 := on_cell ((B1.ext k3).cell 3)
    refine wp_region_on (by kernel_rfl) (by kernel_rfl) ?_
    repeat (go_big_quiet_step (first | (go_at_call 33; with_reducible exact on_call (fun W hW => R1.out W (Ext.trans k3 hW)) _) | (go_at_call 33; with_reducible exact on_call (fun W hW => R2.out W (Ext.trans k3 hW)) _)))
    refine wpQuiet_nil ?_
    intro W hW
    go_wp2
    go_ret2
    exact ⟨ret_val HN.out, Ext.trans HE.out (Ext.trans k3 hW)⟩
  · have hr' : rightB ⟨s, l, t, r⟩ = false := by simpa using hr
    have HN := Lib.hid (show Value.tuple #[.string ⟨#[]⟩, .int .i64 40] = .tuple #[tvv (textV ⟨s, l, t, r⟩), .int .i64 (textE ⟨s, l, t, r⟩)] by rw [textV, textE, if_neg hr, if_neg hr])
    rw [hr'] at RR
    clear hr hr' h h' E1 hG hT
    go_enter Tryd.func23, Tryd.ntmps23
    go_wp2_with (first | (go_at_call 32; (with_reducible refine (RR.out _ (Ext.refl _)).mono ?_); rintro e w1 ⟨⟨v, rfl, hv⟩, k1⟩; have HV := Lib.hid (show Code v 40 from hv); obtain ⟨te, pe, rfl⟩ := code_err HV.out (by decide); clear hv) | (go_at_call 31; (refine (told1_is 40 _ _ 45 _ (HG.out _ (Ext.trans (Ext.trans HE.out k1) (ext1 _ _))) (Blk.new _ _ _) HV.out).mono ?_); rintro e w2 ⟨rfl, k2⟩))
    go_ret2
    exact ⟨ret_val HN.out, Ext.trans HE.out (Ext.trans k1 (Ext.trans (ext1 _ _) k2))⟩
end
end Go.Proofs.YtopgbggighaknaaDoor
/- selionref04: Num, part, Print. -/
namespace Go.Proofs.YtopgbggighaknaaDoor
open Go.RowKit Go
/-- A text. -/
def sv (l : List UInt8) : Value := .string ⟨l.toArray⟩
theorem numS_len : ∀ n, n ≤ 1000000 → (numS n).length ≤ 7 := by
  have h : ∀ k n, n < 10 ^ (k + 1) → (numS n).length ≤ k + 1 := by
    intro k
    induction k with
    | zero => intro n hn; rw [numS, dif_pos (by simpa using hn)]; simp
    | succ k ih =>
      intro n hn
      rw [numS]
      split
      · simp
      · have := ih (n / 10) (by rw [Nat.pow_succ] at hn; omega)
        simp; omega
  intro n hn
  exact h 6 n (by omega)
theorem dig_cut : ∀ n : Fin 10, (ByteArray.mk #[48, 49, 50, 51, 52, 53, 54, 55, 56, 57]).extract n.1 (n.1 + 1) = ⟨#[dg n.1]⟩ := by decide
theorem cat_sv (a b : List UInt8) : (⟨a.toArray⟩ : ByteArray) ++ ⟨b.toArray⟩ = ⟨(a ++ b).toArray⟩ := by
  apply ByteArray.ext
  simp
section
/-- The text of a part, as far as k places. -/
def preT (size : Nat) (l : List Int) (k : Nat) : List UInt8 := numS size ++ 58 :: (l.take k).flatMap fun x => 32 :: numS x.toNat
theorem preT_zero (size : Nat) (l : List Int) : preT size l 0 = numS size ++ [58] := by simp [preT]
theorem preT_succ (size : Nat) (l : List Int) (k : Nat) (hk : k < l.length) : preT size l (k + 1) = preT size l k ++ 32 :: numS (l.getD k 0).toNat := by
  unfold preT
  rw [List.take_add_one, List.getElem?_eq_getElem hk, List.flatMap_append, List.getD_eq_getElem?_getD, List.getElem?_eq_getElem hk]
  simp
theorem preT_end (size : Nat) (l : List Int) (k : Nat) (hk : l.length ≤ k) : preT size l k = partS size (l.map Int.toNat) := by
  unfold preT partS
  rw [List.take_of_length_le hk, List.flatMap_map]
theorem preT_len (size : Nat) (l : List Int) (hs : size ≤ 1000000) (hl : ∀ x ∈ l, x ≤ 1000000) (k : Nat) : (preT size l k).length ≤ 8 + 8 * k := by
  induction k with
  | zero => rw [preT_zero]; have := numS_len size hs; simp; omega
  | succ k ih =>
    by_cases hk : k < l.length
    · rw [preT_succ size l k hk]
      have hx : l.getD k 0 ≤ 1000000 := by rw [List.getD_eq_getElem?_getD, List.getElem?_eq_getElem hk]; exact hl _ (List.getElem_mem hk)
      have := numS_len (l.getD k 0).toNat (by omega)
      simp only [List.length_append, List.length_cons]; omega
    · rw [show preT size l (k + 1) = preT size l k by unfold preT; rw [List.take_of_length_le (by omega), List.take_of_length_le (by omega)]]
      omega
end
end Go.Proofs.YtopgbggighaknaaDoor
/- selionref04: Print. -/
namespace Go.Proofs.YtopgbggighaknaaDoor
open Go.RowKit Go
section
end
end Go.Proofs.YtopgbggighaknaaDoor
/- selionref04: numbers. -/
namespace Go.Proofs.YtopgbggighaknaaDoor
open Go.RowKit Go
def stN (s : List UInt8) (k : Nat) : List Nat × Bool := (s.take k).foldl numStep ([], false)
theorem stN_succ (s : List UInt8) (k : Nat) (hk : k < s.length) : stN s (k + 1) = numStep (stN s k) s[k] := by
  unfold stN
  rw [List.take_add_one, List.getElem?_eq_getElem hk, List.foldl_append]
  rfl
theorem stN_succ' (s : List UInt8) (k : Nat) (hk : k < s.length) : stN s (k + 1) = numStep (stN s k) (s.getD k 0) := by
  rw [stN_succ s k hk, List.getD_eq_getElem?_getD, List.getElem?_eq_getElem hk]; rfl
theorem stN_end (s : List UInt8) (k : Nat) (hk : s.length ≤ k) : (stN s k).1 = nums s := by
  unfold stN nums
  rw [List.take_of_length_le hk]
theorem numStep_no (st : List Nat × Bool) (c : UInt8) (h : isDig c = false) : numStep st c = (st.1, false) := by simp [numStep, h]
theorem numStep_new (st : List Nat × Bool) (c : UInt8) (h : isDig c = true) (h2 : st.2 = false) : numStep st c = (st.1 ++ [c.toNat - 48], true) := by simp [numStep, h, h2]
theorem numStep_on (st : List Nat × Bool) (c : UInt8) (h : isDig c = true) (h2 : st.2 = true) : numStep st c = (st.1.dropLast ++ [min (10 * st.1.getLastD 0 + (c.toNat - 48)) 10000], true) := by simp [numStep, h, h2]
theorem numStep_2 (st : List Nat × Bool) (c : UInt8) : (numStep st c).2 = isDig c := by
  unfold numStep; split
  · rename_i h; rw [h]; split <;> rfl
  · rename_i h; simpa using h
structure Ok (st : List Nat × Bool) (k : Nat) : Prop where
  ne : st.2 = true → st.1 ≠ []
  le : ∀ x ∈ st.1, x ≤ 10000
  len : st.1.length ≤ k
theorem stN_ok (s : List UInt8) : ∀ k, k ≤ s.length → Ok (stN s k) k := by
  intro k
  induction k with
  | zero => intro _; exact ⟨fun h => by simp [stN] at h, fun x hx => by simp [stN] at hx, by simp [stN]⟩
  | succ k ih =>
    intro hk
    have h := ih (by omega)
    rw [stN_succ s k (by omega)]
    have hb : (s[k]).toNat < 256 := UInt8.toNat_lt _
    by_cases hd : isDig s[k] = true
    · by_cases h2 : (stN s k).2 = true
      · rw [numStep_on _ _ hd h2]
        refine ⟨fun _ => by simp, fun x hx => ?_, ?_⟩
        · rcases List.mem_append.1 hx with hx | hx
          · exact h.le x (List.dropLast_subset _ hx)
          · simp at hx; omega
        · have := h.len; have := List.length_pos_iff.2 (h.ne h2); simp; omega
      · rw [numStep_new _ _ hd (by simpa using h2)]
        refine ⟨fun _ => by simp, fun x hx => ?_, ?_⟩
        · rcases List.mem_append.1 hx with hx | hx
          · exact h.le x hx
          · simp at hx; omega
        · have := h.len; simp; omega
    · rw [numStep_no _ _ (by simpa using hd)]
      exact ⟨fun h => by simp at h, h.le, by have := h.len; show (stN s k).1.length ≤ k + 1; omega⟩
def encN (l : List Nat) : List Value := l.map fun x => Value.int .i64 (x : Nat)
theorem encN_last (l : List Nat) (y : Nat) (hl : l ≠ []) : (encN l).set (l.length - 1) (.int .i64 (y : Nat)) = encN (l.dropLast ++ [y]) := by
  obtain ⟨r, x, rfl⟩ : ∃ r x, l = r ++ [x] := ⟨l.dropLast, l.getLast hl, (List.dropLast_concat_getLast hl).symm⟩
  simp [encN]
/-- The numbers read off a text, in memory of its own. -/
def NumsR (w : World) (s : List UInt8) (e : Ending) (w' : World) : Prop :=
  ∃ A c, e = .returned (.slice A (nums s).length c) ∧ (nums s).length ≤ c ∧ c ≤ maxLen ∧ ((A = none → c = 0) ∧ ∀ ad, A = some ad → w.heap.size ≤ ad.block) ∧ Il w' A (nums s).length ((nums s).map Int.ofNat) ∧ Ext w w'
theorem numsR_of_own {w0 w' : World} {base : Nat} {L : List Nat} {v : Value} (h : w0.ownsRow base 3 1 v L.length (encN L)) (he : Ext w0 w') :
    ∃ A c, v = .slice A L.length c ∧ L.length ≤ c ∧ c ≤ maxLen ∧ ((A = none → c = 0) ∧ ∀ ad, A = some ad → base ≤ ad.block) ∧ Il w' A L.length (L.map Int.ofNat) := by
  obtain ⟨A, c, rfl, hr⟩ := rd_of_own h
  have hc : L.length ≤ c ∧ c ≤ maxLen ∧ ((A = none → c = 0) ∧ ∀ ad, A = some ad → base ≤ ad.block) := by
    rcases h.2 with ⟨e, h0⟩ | ⟨g, cap, cur, e, hgb, _, h1, h2, _⟩
    · simp only [Value.slice.injEq] at e; obtain ⟨e1, e2, e3⟩ := e; exact ⟨by omega, by unfold maxLen; omega, fun _ => e3, fun ad h => by rw [h] at e1; cases e1⟩
    · simp only [Value.slice.injEq] at e; obtain ⟨e1, e2, rfl⟩ := e; exact ⟨by omega, h2, fun h => (by rw [h] at e1; cases e1), fun ad h => (by rw [h] at e1; cases e1; exact hgb)⟩
  refine ⟨A, c, rfl, hc.1, hc.2.1, hc.2.2, by simp, fun hn => ?_⟩
  obtain ⟨ad, e, hb, hcl⟩ := (hr.ext he) hn
  refine ⟨ad, e, hb, fun j hj => ?_⟩
  rw [hcl j hj]
  simp [encN, hj]
section
end
end Go.Proofs.YtopgbggighaknaaDoor
/- selionref04: Parse: what it answers, and what is read at the first ';' (its walk is still to do). selionref04: Parse. -/
namespace Go.Proofs.YtopgbggighaknaaDoor
open Go.RowKit Go
theorem cutAt_none : ∀ (s : List UInt8), (∀ c ∈ s, c ≠ 59) → cutAt s = none
  | [], _ => rfl
  | c :: s, h => by
    have h1 : ¬ c = 59 := h c (by simp)
    simp [cutAt, h1, cutAt_none s (fun c' hc => h c' (by simp [hc]))]
theorem cutAt_at (s : List UInt8) (k : Nat) (hk : k < s.length) (h : ∀ c ∈ s.take k, c ≠ 59) (h59 : s.getD k 0 = 59) : cutAt s = some (s.take k, s.drop k) := by
  have e : s.drop k = 59 :: s.drop (k + 1) := by
    rw [List.drop_eq_getElem_cons hk, ← h59, List.getD_eq_getElem?_getD, List.getElem?_eq_getElem hk]; rfl
  have e2 : s = s.take k ++ 59 :: s.drop (k + 1) := by rw [← e]; exact (List.take_append_drop k s).symm
  conv => lhs; rw [e2]
  rw [cutAt_of _ _ h, e]
theorem no59_succ (s : List UInt8) (k : Nat) (hk : k < s.length) (h : ∀ c ∈ s.take k, c ≠ 59) (h59 : s.getD k 0 ≠ 59) : ∀ c ∈ s.take (k + 1), c ≠ 59 := by
  intro c hc
  rw [List.take_add_one, List.getElem?_eq_getElem hk] at hc
  rcases List.mem_append.1 hc with hc | hc
  · exact h c hc
  · simp at hc
    rw [hc]
    rwa [List.getD_eq_getElem?_getD, List.getElem?_eq_getElem hk] at h59
theorem parseP_no (s : List UInt8) (h : ∀ c ∈ s, c ≠ 59) : parseP s = none := by unfold parseP; rw [cutAt_none s h]
/-- What is read at the first ';'. -/
theorem parseP_at (s : List UInt8) (k : Nat) (hk : k < s.length) (h : ∀ c ∈ s.take k, c ≠ 59) (h59 : s.getD k 0 = 59) :
    parseP s = match nums (s.take k), nums (s.drop k) with
      | x :: xs, y :: ys => if rightB ⟨x, xs.map Int.ofNat, y, ys.map Int.ofNat⟩ && textS ⟨x, xs.map Int.ofNat, y, ys.map Int.ofNat⟩ == s then some ⟨x, xs.map Int.ofNat, y, ys.map Int.ofNat⟩ else none
      | _, _ => none := by
  unfold parseP
  rw [cutAt_at s k hk h h59]
  rfl
/-- What Parse answers. -/
def ParseR (w : World) (s : List UInt8) (e : Ending) (w' : World) : Prop :=
  match parseP s with
  | none => e = .returned (.tuple #[.agg #[.int .i64 0, .slice none 0 0, .int .i64 0, .slice none 0 0], .int .i64 40]) ∧ Ext w w'
  | some d => ∃ A c B c', e = .returned (.tuple #[.agg #[.int .i64 d.size, .slice A d.ptrs.length c, .int .i64 d.elem, .slice B d.eptrs.length c'], .int .i64 0]) ∧
      d.ptrs.length ≤ c ∧ d.eptrs.length ≤ c' ∧ c ≤ maxLen ∧ c' ≤ maxLen ∧ Il w' A d.ptrs.length d.ptrs ∧ Il w' B d.eptrs.length d.eptrs ∧ (∀ ad, A = some ad → w.heap.size ≤ ad.block) ∧ (∀ ad, B = some ad → w.heap.size ≤ ad.block) ∧ Ext w w'
theorem ext_take (s : List UInt8) (k : Nat) : (ByteArray.mk s.toArray).extract 0 k = ⟨(s.take k).toArray⟩ := by apply ByteArray.ext; rw [ByteArray.data_extract]; simp
theorem ext_drop (s : List UInt8) (k : Nat) : (ByteArray.mk s.toArray).extract k (ByteArray.mk s.toArray).size = ⟨(s.drop k).toArray⟩ := by
  apply ByteArray.ext; rw [ByteArray.data_extract, show (ByteArray.mk s.toArray).size = s.length by show s.toArray.size = _; simp]
  simp
  exact List.take_of_length_le (by simp)
theorem il_tail {W : World} {ad : Addr} {n : Nat} {v : Int} {l : List Int} (h : Il W (some ad) (n + 1) (v :: l)) : Il W (some (ad.add 1)) n l := by
  refine ⟨by have := h.1; simpa using this, fun hn => ?_⟩
  obtain ⟨ad', e, hb, hc⟩ := h.2 (by omega)
  cases e
  refine ⟨_, rfl, by rw [block_of_add]; exact hb, fun j hj => ?_⟩
  rw [add_of_add, show 1 + j = j + 1 by omega, hc (j + 1) (by omega)]
  rfl
theorem ba_inj {a b : ByteArray} (h : a.toList = b.toList) : a = b := by
  rw [ByteArray.toList_eq, ByteArray.toList_eq] at h
  apply ByteArray.ext
  exact Array.toList_inj.1 h
theorem add_one (ad : Addr) : ad.add 1 = ⟨ad.block, ad.off + 1, none⟩ := by simp [Addr.add]
theorem il_head {W : World} {A : Option Addr} {n : Nat} {v : Int} {l : List Int} (h : Il W A (n + 1) (v :: l)) : ∃ ad, A = some ad ∧ W.cell? ad = some (.int .i64 v) := by
  obtain ⟨ad, e, hb, hc⟩ := h.2 (by omega)
  refine ⟨ad, e, ?_⟩
  have := hc 0 (by omega)
  simpa [Addr.add] using this
theorem nums_len (s : List UInt8) : (nums s).length ≤ s.length := by
  have := (stN_ok s s.length (Nat.le_refl _)).len
  rwa [stN_end s s.length (Nat.le_refl _)] at this
section
end
end Go.Proofs.YtopgbggighaknaaDoor
/- Kinds: lists of descriptors, their numbers, their text, and what is read off it, line by line: pure. -/
namespace Go.Proofs.YtopgbggighaknaaDoor
open Go
/-- The number of the first that is the same; 0: none is. -/
def findK : List DescR → DescR → Nat
  | [], _ => 0
  | x :: l, d => if x = d then 1 else if findK l d = 0 then 0 else findK l d + 1
/-- Are they kinds? ahead: those that stand ahead of them. -/
def freshK : List DescR → List DescR → Bool
  | _, [] => true
  | ahead, d :: l => !decide (d ∈ ahead) && rightB d && freshK (ahead ++ [d]) l
def rightK (l : List DescR) : Bool := freshK [] l && decide (l.length ≤ 60)
/-- Their text. -/
def textK (l : List DescR) : List UInt8 := l.flatMap fun d => textS d ++ [10]
theorem findK_zero (d : DescR) : ∀ l, findK l d = 0 ↔ d ∉ l
  | [] => by simp [findK]
  | x :: l => by
    have ih := findK_zero d l
    unfold findK
    by_cases h : x = d
    · simp [h]
    · rw [if_neg h]
      by_cases h0 : findK l d = 0
      · rw [if_pos h0]; simp [Ne.symm h, ih.1 h0]
      · rw [if_neg h0]
        have : d ∈ l := by
          cases Classical.em (d ∈ l) with
          | inl h => exact h
          | inr h => exact absurd (ih.2 h) h0
        simp [this]
theorem findK_le (d : DescR) : ∀ l, findK l d ≤ l.length
  | [] => by simp [findK]
  | x :: l => by
    have ih := findK_le d l
    unfold findK
    split
    · simp
    · split
      · omega
      · simp; omega
theorem findK_at (d : DescR) : ∀ (l : List DescR) (k : Nat), findK l d = k + 1 → l[k]? = some d
  | [], k, h => by simp [findK] at h
  | x :: l, k, h => by
    unfold findK at h
    split at h
    · rename_i e; obtain rfl : k = 0 := by omega
      simp [e]
    · split at h
      · omega
      · obtain ⟨j, rfl⟩ : ∃ j, k = j + 1 := ⟨k - 1, by omega⟩
        rw [List.getElem?_cons_succ]; exact findK_at d l j (by omega)
theorem freshK_iff : ∀ (l ahead : List DescR), freshK ahead l = true ↔ (∀ d ∈ l, rightB d = true ∧ d ∉ ahead) ∧ l.Nodup
  | [], _ => by simp [freshK]
  | d :: l, ahead => by
    simp only [freshK, Bool.and_eq_true, freshK_iff l (ahead ++ [d])]
    simp
    constructor
    · rintro ⟨⟨h1, h2⟩, h3, h4⟩
      exact ⟨⟨⟨h2, h1⟩, fun x hx => ⟨(h3 x hx).1, (h3 x hx).2.1⟩⟩, fun hd => (h3 d hd).2.2 rfl, h4⟩
    · rintro ⟨⟨⟨h1, h2⟩, h3⟩, h4, h5⟩
      exact ⟨⟨h2, h1⟩, fun x hx => ⟨(h3 x hx).1, (h3 x hx).2, fun e => h4 (e ▸ hx)⟩, h5⟩
theorem rightK_iff (l : List DescR) : rightK l = true ↔ (∀ d ∈ l, rightB d = true) ∧ l.Nodup ∧ l.length ≤ 60 := by
  simp [rightK, freshK_iff, and_assoc]
/-- .. by what stands ahead of each. -/
theorem freshK_app : ∀ (l ahead : List DescR) (d : DescR), freshK ahead (l ++ [d]) = (freshK ahead l && (!decide (d ∈ ahead ++ l) && rightB d))
  | [], ahead, d => by simp [freshK]
  | x :: l, ahead, d => by
    simp only [List.cons_append, freshK, freshK_app l (ahead ++ [x]) d, List.append_assoc, Bool.and_assoc, List.nil_append]
/-- One round of reading a text: what has been read, the line's number, what is left; or the end. -/
inductive RdK where
  | done (l : List DescR)
  | bad (line : Nat) (e : Int)
deriving DecidableEq
/-- The first line, without its end, and what stands behind that. -/
def lineK (s : List UInt8) : List UInt8 × Option (List UInt8) :=
  match s with
  | [] => ([], none)
  | c :: r => if c = 10 then ([], some r) else (c :: (lineK r).1, (lineK r).2)
theorem lineK_less : ∀ (s r : List UInt8), (lineK s).2 = some r → r.length < s.length
  | [], r, h => by simp [lineK] at h
  | c :: s, r, h => by
    unfold lineK at h
    split at h
    · simp at h; subst h; simp
    · have := lineK_less s r h; simp; omega
theorem lineK_of : ∀ (s r : List UInt8), (∀ c ∈ s, c ≠ 10) → lineK (s ++ 10 :: r) = (s, some r)
  | [], r, _ => by simp [lineK]
  | c :: s, r, h => by
    have h1 : ¬ c = 10 := h c (by simp)
    rw [List.cons_append, lineK, if_neg h1, lineK_of s r (fun x hx => h x (by simp [hx]))]
theorem lineK_back : ∀ (s r : List UInt8), (lineK s).2 = some r → s = (lineK s).1 ++ 10 :: r ∧ ∀ c ∈ (lineK s).1, c ≠ 10
  | [], r, h => by simp [lineK] at h
  | c :: s, r, h => by
    unfold lineK at h ⊢
    split at h
    · rename_i e; simp at h; subst h; simp [e]
    · rename_i e
      obtain ⟨h1, h2⟩ := lineK_back s r h
      rw [if_neg e]
      refine ⟨by show c :: s = c :: ((lineK s).1 ++ 10 :: r); rw [← h1], fun x hx => ?_⟩
      rcases List.mem_cons.1 hx with rfl | hx
      · exact e
      · exact h2 x hx
/-- What is read off a text behind those that are read, line lines on. -/
def readK (out : List DescR) (line : Nat) (s : List UInt8) : RdK :=
  if s = [] then .done out else
  match _h : (lineK s).2, parseP (lineK s).1 with
  | some r, some d => if d ∈ out then .bad (line + 1) 52 else if out.length = 60 then .bad (line + 1) 53 else readK (out ++ [d]) (line + 1) r
  | _, _ => .bad (line + 1) 40
termination_by s.length
decreasing_by exact lineK_less s r (by assumption)
theorem text_no10 (d : DescR) : ∀ c ∈ textS d, c ≠ 10 := by
  intro c hc e
  subst e
  have hd : ∀ n, (10 : UInt8) ∉ numS n := fun n h => by have := numS_dig n 10 h; revert this; decide
  have hp : ∀ n (l : List Nat), (10 : UInt8) ∉ partS n l := fun n l h => by
    unfold partS at h
    rcases List.mem_append.1 h with h | h
    · exact hd _ h
    · rcases List.mem_cons.1 h with h | h
      · revert h; decide
      · obtain ⟨x, _, hx⟩ := List.mem_flatMap.1 h
        rcases List.mem_cons.1 hx with h | h
        · revert h; decide
        · exact hd _ h
  unfold textS at hc
  rcases List.mem_append.1 hc with h | h
  · exact hp _ _ h
  · rcases List.mem_cons.1 h with h | h
    · revert h; decide
    · rcases List.mem_cons.1 h with h | h
      · revert h; decide
      · exact hp _ _ h
theorem readK_step (out : List DescR) (line : Nat) (d : DescR) (r : List UInt8) (hd : rightB d = true) (h1 : d ∉ out) (h2 : out.length < 60) : readK out line (textS d ++ 10 :: r) = readK (out ++ [d]) (line + 1) r := by
  have hl := lineK_of (textS d) r (text_no10 d)
  rw [readK, if_neg (by simp)]
  split
  · rename_i r' d' e1 e2
    rw [hl] at e1 e2
    rw [parse_text d hd] at e2
    obtain rfl : r = r' := by simpa using e1
    obtain rfl : d = d' := by simpa using e2
    rw [if_neg h1, if_neg (by omega)]
  · rename_i h
    exact absurd (by rw [hl]; exact parse_text d hd) (h r d (by rw [hl]))
theorem readK_text : ∀ (l out : List DescR) (line : Nat), freshK out l = true → out.length + l.length ≤ 60 → readK out line (textK l) = .done (out ++ l)
  | [], out, line, _, _ => by rw [readK, if_pos (by simp [textK])]; simp
  | d :: l, out, line, h, hn => by
    simp only [freshK, Bool.and_eq_true] at h
    have e : textK (d :: l) = textS d ++ 10 :: textK l := by simp [textK]
    rw [e, readK_step out line d _ h.1.2 (by simpa using h.1.1) (by simp at hn; omega), readK_text l (out ++ [d]) (line + 1) h.2 (by simp at hn ⊢; omega)]
    simp
theorem readK_done : ∀ (n : Nat) (s : List UInt8), s.length ≤ n → ∀ (out : List DescR) (line : Nat) (l : List DescR), readK out line s = .done l → out.length ≤ 60 → ∃ m, l = out ++ m ∧ textK m = s ∧ freshK out m = true ∧ l.length ≤ 60 := by
  intro n
  induction n with
  | zero =>
    intro s hs out line l h ho
    obtain rfl : s = [] := List.length_eq_zero_iff.1 (by omega)
    rw [readK, if_pos rfl] at h
    cases h
    exact ⟨[], by simp, rfl, rfl, ho⟩
  | succ n ih =>
    intro s hs out line l h ho
    rw [readK] at h
    split at h
    · rename_i e; subst e; cases h; exact ⟨[], by simp, rfl, rfl, ho⟩
    · split at h
      · rename_i r d e1 e2
        split at h
        · cases h
        · rename_i h1
          split at h
          · cases h
          · rename_i h2
            have hb := lineK_back s r e1
            have hlt := lineK_less s r e1
            obtain ⟨m, rfl, e3, e4, e5⟩ := ih r (by omega) _ _ _ h (by simp; omega)
            obtain ⟨p1, p2⟩ := parse_some e2
            refine ⟨d :: m, by simp, ?_, ?_, e5⟩
            · rw [show textK (d :: m) = textS d ++ 10 :: textK m by simp [textK], e3, p2]; exact hb.1.symm
            · simp only [freshK, Bool.and_eq_true]; exact ⟨⟨by simpa using h1, p1⟩, e4⟩
      · cases h
theorem readK_bad : ∀ (n : Nat) (s : List UInt8), s.length ≤ n → ∀ (out : List DescR) (line k : Nat) (e : Int), readK out line s = .bad k e → 0 < k ∧ (e = 40 ∨ e = 52 ∨ e = 53) := by
  intro n
  induction n with
  | zero =>
    intro s hs out line k e h
    obtain rfl : s = [] := List.length_eq_zero_iff.1 (by omega)
    rw [readK, if_pos rfl] at h
    cases h
  | succ n ih =>
    intro s hs out line k e h
    rw [readK] at h
    split at h
    · cases h
    · split at h
      · rename_i r d e1 e2
        split at h
        · cases h; exact ⟨by omega, by omega⟩
        · split at h
          · cases h; exact ⟨by omega, by omega⟩
          · have hlt := lineK_less s r e1
            exact ih r (by omega) _ _ _ _ h
      · cases h; exact ⟨by omega, by omega⟩
end Go.Proofs.YtopgbggighaknaaDoor
