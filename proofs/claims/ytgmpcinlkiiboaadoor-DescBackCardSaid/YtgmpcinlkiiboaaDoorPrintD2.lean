/- desc: Print. -/
import Derived.Test.YtgmpcinlkiiboaaDoorPrintD
import Derived.Test.YtgmpcinlkiiboaaDoorSlotsD
import Derived.Test.YtgmpcinlkiiboaaDoorCell
namespace Go.Proofs.YtgmpcinlkiiboaaDoor
open Go.RowKit Go
theorem cat_tv (a b : List UInt8) : (⟨a.toArray⟩ : ByteArray) ++ ⟨b.toArray⟩ = ⟨(a ++ b).toArray⟩ := by
  apply ByteArray.ext; rw [ByteArray.data_append]; simp
abbrev tvv (l : List UInt8) : Value := .string ⟨l.toArray⟩
section
set_option maxHeartbeats 4000000 in
set_option maxRecDepth 100000 in
theorem dprint_is (A B : Option Addr) (n m c e : Nat) (s t : Int) (l r : List Int) (hn : n ≤ 1000) (hm : m ≤ 1000) (w : World) (hG : G w) (hT : HTab w) (h : Il w A n l) (h' : Il w B m r) :
    Calls Tryd.prog 21 #[.agg #[.int .i64 s, .slice A n c, .int .i64 t, .slice B m e]] w fun e w' => e = .returned (.tuple #[tvv (textV ⟨s, l, t, r⟩), .int .i64 (textE ⟨s, l, t, r⟩)]) ∧ Ext w w' := by
  have E1 := ext1 w (.cells #[.int .i64 s, .slice A n c, .int .i64 t, .slice B m e] 24)
  have HE := Lib.hid E1
  have RR := Lib.hid (fun W (hW : Ext (w.alloc (.cells #[.int .i64 s, .slice A n c, .int .i64 t, .slice B m e] 24)) W) => noDesc_is A B n m c e s t l r (by omega) (by omega) W (hG.ext (Ext.trans E1 hW)) (h.ext (Ext.trans E1 hW)) (h'.ext (Ext.trans E1 hW)))
  have HG := Lib.hid (fun W (hW : Ext w W) => hG.ext hW)
  have B1 := Blk.new w #[.int .i64 s, .slice A n c, .int .i64 t, .slice B m e] 24
  by_cases hr : rightB ⟨s, l, t, r⟩ = true
  · have hR := right_of hr
    obtain ⟨S, rfl⟩ : ∃ k : Nat, s = k := ⟨s.toNat, by have : 0 ≤ s := hR.s0; omega⟩
    obtain ⟨T, rfl⟩ : ∃ k : Nat, t = k := ⟨t.toNat, by have : 0 ≤ t := hR.e0; omega⟩
    have hS : (S : Int) ≤ 1024 := hR.s1
    have hT' : (T : Int) ≤ 256 := hR.e1
    have hp : ∀ x ∈ l, 0 ≤ x ∧ x ≤ 2000 := fun x hx => by have := hR.pp x hx; have h2 : x < (S : Int) := this.2.1; omega
    have hq : ∀ x ∈ r, 0 ≤ x ∧ x ≤ 2000 := fun x hx => by have := hR.qq x hx; have h2 : x < (T : Int) := this.2.1; omega
    have R1 := Lib.hid (fun W (hW : Ext (w.alloc (.cells #[.int .i64 (S : Int), .slice A n c, .int .i64 (T : Int), .slice B m e] 24)) W) => partText_is S A n c l (by omega) hn hp W (hT.ext (Ext.trans E1 hW)) (h.ext (Ext.trans E1 hW)))
    have R2 := Lib.hid (fun W (hW : Ext (w.alloc (.cells #[.int .i64 (S : Int), .slice A n c, .int .i64 (T : Int), .slice B m e] 24)) W) => partText_is T B m e r (by omega) hm hq W (hT.ext (Ext.trans E1 hW)) (h'.ext (Ext.trans E1 hW)))
    have z1 : (partS S (l.map Int.toNat)).length ≤ 10000 := by
      have := wrS_len S l (by omega) hp l.length (Nat.le_refl _)
      rw [wrS_end, h.1] at this; omega
    have z2 : (partS T (r.map Int.toNat)).length ≤ 10000 := by
      have := wrS_len T r (by omega) hq r.length (Nat.le_refl _)
      rw [wrS_end, h'.1] at this; omega
    have s1 : (ByteArray.mk (partS S (l.map Int.toNat)).toArray).size ≤ 10000 := by show (partS S (l.map Int.toNat)).toArray.size ≤ _; simpa using z1
    have s2 : (ByteArray.mk (partS T (r.map Int.toNat)).toArray).size ≤ 10000 := by show (partS T (r.map Int.toNat)).toArray.size ≤ _; simpa using z2
    have s3 : (ByteArray.mk (partS S (l.map Int.toNat)).toArray ++ ⟨#[59, 32]⟩).size ≤ 10002 := by rw [ByteArray.size_append]; have : (ByteArray.mk #[59, 32]).size = 2 := rfl; omega
    have HN := Lib.hid (show Value.tuple #[.string (ByteArray.mk (partS S (l.map Int.toNat)).toArray ++ ⟨#[59, 32]⟩ ++ ⟨(partS T (r.map Int.toNat)).toArray⟩), .int .i64 0] = .tuple #[tvv (textV ⟨S, l, T, r⟩), .int .i64 (textE ⟨S, l, T, r⟩)] by
      rw [textV, textE, if_pos hr, if_pos hr, show ByteArray.mk #[59, 32] = ⟨[59, 32].toArray⟩ from rfl, cat_tv, cat_tv]
      simp [textS])
    rw [hr] at RR
    clear hr hR hS hT' hp hq z1 z2 h h' E1 hG hT
    generalize ByteArray.mk (partS S (l.map Int.toNat)).toArray = P1 at *
    generalize ByteArray.mk (partS T (r.map Int.toNat)).toArray = P2 at *
    go_enter Tryd.func21, Tryd.ntmps21
    go_wp2_with (first | (go_at_call 34; (with_reducible refine (RR.out _ (Ext.refl _)).mono ?_); rintro e w1 ⟨⟨v, rfl, hv⟩, k1⟩; obtain rfl := code_nil hv rfl; clear hv) | (go_at_call 26; (refine (told1_is 0 .nilIface _ 49 _ (HG.out _ (Ext.trans (Ext.trans HE.out k1) (ext1 _ _))) (Blk.new _ _ _) code_0).mono ?_); rintro e w2 ⟨rfl, k2⟩))
    have k3 : Ext (w.alloc (.cells #[.int .i64 (S : Int), .slice A n c, .int .i64 (T : Int), .slice B m e] 24)) w2 := Ext.trans k1 (Ext.trans (ext1 _ _) k2)
    have C0 := on_cell ((B1.ext k3).cell 0)
    have C1 := on_cell ((B1.ext k3).cell 1)
    have C2 := on_cell ((B1.ext k3).cell 2)
    have C3 := on_cell ((B1.ext k3).cell 3)
    refine wp_region_on (by kernel_rfl) (by kernel_rfl) ?_
    repeat (go_big_quiet_step (first | (go_at_call 35; with_reducible exact on_call (fun W hW => R1.out W (Ext.trans k3 hW)) _) | (go_at_call 35; with_reducible exact on_call (fun W hW => R2.out W (Ext.trans k3 hW)) _)))
    refine wpQuiet_nil ?_
    intro W hW
    go_wp2
    go_ret2
    exact ⟨ret_val HN.out, Ext.trans HE.out (Ext.trans k3 hW)⟩
  · have hr' : rightB ⟨s, l, t, r⟩ = false := by simpa using hr
    have HN := Lib.hid (show Value.tuple #[.string ⟨#[]⟩, .int .i64 40] = .tuple #[tvv (textV ⟨s, l, t, r⟩), .int .i64 (textE ⟨s, l, t, r⟩)] by rw [textV, textE, if_neg hr, if_neg hr])
    rw [hr'] at RR
    clear hr hr' h h' E1 hG hT
    go_enter Tryd.func21, Tryd.ntmps21
    go_wp2_with (first | (go_at_call 34; (with_reducible refine (RR.out _ (Ext.refl _)).mono ?_); rintro e w1 ⟨⟨v, rfl, hv⟩, k1⟩; have HV := Lib.hid (show Code v 40 from hv); obtain ⟨te, pe, rfl⟩ := code_err HV.out (by decide); clear hv) | (go_at_call 26; (refine (told1_is 40 _ _ 49 _ (HG.out _ (Ext.trans (Ext.trans HE.out k1) (ext1 _ _))) (Blk.new _ _ _) HV.out).mono ?_); rintro e w2 ⟨rfl, k2⟩))
    go_ret2
    exact ⟨ret_val HN.out, Ext.trans HE.out (Ext.trans k1 (Ext.trans (ext1 _ _) k2))⟩
end
end Go.Proofs.YtgmpcinlkiiboaaDoor
