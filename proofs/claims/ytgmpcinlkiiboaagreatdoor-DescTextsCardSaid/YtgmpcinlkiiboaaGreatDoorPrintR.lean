/- selionref04: Print. -/
import Derived.Test.YtgmpcinlkiiboaaGreatDoorNumR
import Derived.Test.YtgmpcinlkiiboaaGreatDoorCell
namespace Go.Proofs.YtgmpcinlkiiboaaGreatDoor
open Go.RowKit Go
section
set_option maxHeartbeats 1000000 in
set_option maxRecDepth 100000 in
theorem print_is (A B : Option Addr) (n m c e : Nat) (s t : Int) (l r : List Int) (hn : n ≤ 1000) (hm : m ≤ 1000) (w : World) (h : Il w A n l) (h' : Il w B m r) :
    Calls Tryz.prog 7 #[.agg #[.int .i64 s, .slice A n c, .int .i64 t, .slice B m e]] w fun e w' => e = .returned (.tuple #[sv (textV ⟨s, l, t, r⟩), .int .i64 (textE ⟨s, l, t, r⟩)]) ∧ Ext w w' := by
  have E1 := ext1 w (.cells #[.int .i64 s, .slice A n c, .int .i64 t, .slice B m e] 24)
  have HE := Lib.hid E1
  have RR := Lib.hid (fun W (hW : Ext (w.alloc (.cells #[.int .i64 s, .slice A n c, .int .i64 t, .slice B m e] 24)) W) => right_is A B n m c e s t l r (by omega) (by omega) W (h.ext (Ext.trans E1 hW)) (h'.ext (Ext.trans E1 hW)))
  by_cases hr : rightB ⟨s, l, t, r⟩ = true
  · have hR := right_of hr
    obtain ⟨S, rfl⟩ : ∃ k : Nat, s = k := ⟨s.toNat, by have : 0 ≤ s := hR.s0; omega⟩
    obtain ⟨T, rfl⟩ : ∃ k : Nat, t = k := ⟨t.toNat, by have : 0 ≤ t := hR.e0; omega⟩
    have hS : (S : Int) ≤ 1024 := hR.s1
    have hT : (T : Int) ≤ 256 := hR.e1
    have hp : ∀ x ∈ l, 0 ≤ x ∧ x ≤ 1000000 := fun x hx => by have := hR.pp x hx; have h2 : x < (S : Int) := this.2.1; omega
    have hq : ∀ x ∈ r, 0 ≤ x ∧ x ≤ 1000000 := fun x hx => by have := hR.qq x hx; have h2 : x < (T : Int) := this.2.1; omega
    have R1 := Lib.hid (fun W (hW : Ext (w.alloc (.cells #[.int .i64 (S : Int), .slice A n c, .int .i64 (T : Int), .slice B m e] 24)) W) => part_is A n c l S hn (by omega) hp W (h.ext (Ext.trans E1 hW)))
    have R2 := Lib.hid (fun W (hW : Ext (w.alloc (.cells #[.int .i64 (S : Int), .slice A n c, .int .i64 (T : Int), .slice B m e] 24)) W) => part_is B m e r T hm (by omega) hq W (h'.ext (Ext.trans E1 hW)))
    have z1 : (partS S (l.map Int.toNat)).length ≤ 10000 := by
      have := preT_len S l (by omega) (fun x hx => (hp x hx).2) l.length
      rw [preT_end S l _ (Nat.le_refl _), h.1] at this; omega
    have z2 : (partS T (r.map Int.toNat)).length ≤ 10000 := by
      have := preT_len T r (by omega) (fun x hx => (hq x hx).2) r.length
      rw [preT_end T r _ (Nat.le_refl _), h'.1] at this; omega
    have s1 : (ByteArray.mk (partS S (l.map Int.toNat)).toArray).size ≤ 10000 := by show (partS S (l.map Int.toNat)).toArray.size ≤ _; simpa using z1
    have s2 : (ByteArray.mk (partS T (r.map Int.toNat)).toArray).size ≤ 10000 := by show (partS T (r.map Int.toNat)).toArray.size ≤ _; simpa using z2
    have s3 : (ByteArray.mk (partS S (l.map Int.toNat)).toArray ++ ⟨#[59, 32]⟩).size ≤ 10002 := by rw [ByteArray.size_append]; have : (ByteArray.mk #[59, 32]).size = 2 := rfl; omega
    have HN := Lib.hid (show Value.tuple #[.string (ByteArray.mk (partS S (l.map Int.toNat)).toArray ++ ⟨#[59, 32]⟩ ++ ⟨(partS T (r.map Int.toNat)).toArray⟩), .int .i64 0] = .tuple #[sv (textV ⟨S, l, T, r⟩), .int .i64 (textE ⟨S, l, T, r⟩)] by
      rw [textV, textE, if_pos hr, if_pos hr, sv, show ByteArray.mk #[59, 32] = ⟨[59, 32].toArray⟩ from rfl, cat_sv, cat_sv]
      simp [textS])
    rw [hr] at RR
    unfold sv at R1 R2
    have B1 := Blk.new w #[.int .i64 (S : Int), .slice A n c, .int .i64 (T : Int), .slice B m e] 24
    clear hr hR hS hT hp hq z1 z2 h h' E1
    generalize ByteArray.mk (partS S (l.map Int.toNat)).toArray = P1 at *
    generalize ByteArray.mk (partS T (r.map Int.toNat)).toArray = P2 at *
    go_enter Tryz.func7, Tryz.ntmps7
    go_wp2_with (go_at_call 19; with_reducible refine (RR.out _ (Ext.refl _)).mono ?_; rintro e w1 ⟨rfl, k1⟩)
    have C0 := on_cell ((B1.ext k1).cell 0)
    have C1 := on_cell ((B1.ext k1).cell 1)
    have C2 := on_cell ((B1.ext k1).cell 2)
    have C3 := on_cell ((B1.ext k1).cell 3)
    refine wp_region_on (by kernel_rfl) (by kernel_rfl) ?_
    repeat (go_big_quiet_step (first | (go_at_call 20; with_reducible exact on_call (fun W hW => R1.out W (Ext.trans k1 hW)) _) | (go_at_call 20; with_reducible exact on_call (fun W hW => R2.out W (Ext.trans k1 hW)) _)))

    refine wpQuiet_nil ?_
    intro W hW
    go_wp2
    go_ret2
    exact ⟨ret_val HN.out, Ext.trans HE.out (Ext.trans k1 hW)⟩
  · have hr' : rightB ⟨s, l, t, r⟩ = false := by simpa using hr
    have HN := Lib.hid (show Value.tuple #[.string ⟨#[]⟩, .int .i64 40] = .tuple #[sv (textV ⟨s, l, t, r⟩), .int .i64 (textE ⟨s, l, t, r⟩)] by rw [textV, textE, if_neg hr, if_neg hr]; rfl)
    rw [hr'] at RR
    clear hr hr' h h' E1
    go_enter Tryz.func7, Tryz.ntmps7
    go_wp2_with (go_at_call 19; with_reducible refine (RR.out _ (Ext.refl _)).mono ?_; rintro e w1 ⟨rfl, k1⟩)
    go_ret2
    exact ⟨ret_val HN.out, Ext.trans HE.out k1⟩
end
end Go.Proofs.YtgmpcinlkiiboaaGreatDoor
