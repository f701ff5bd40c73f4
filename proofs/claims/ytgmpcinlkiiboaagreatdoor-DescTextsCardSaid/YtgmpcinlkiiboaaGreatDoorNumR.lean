/- selionref04: Num, part, Print. -/
import Derived.Test.YtgmpcinlkiiboaaGreatDoorVals
import Derived.Test.YtgmpcinlkiiboaaGreatDoorRightR
namespace Go.Proofs.YtgmpcinlkiiboaaGreatDoor
open Go.RowKit Go
/-- A text. -/
def sv (l : List UInt8) : Value := .string ⟨l.toArray⟩
theorem numS_len : ∀ n, n ≤ 1000000 → (numS n).length ≤ 7 := by
  have h : ∀ k n, n < 10 ^ (k + 1) → (numS n).length ≤ k + 1 := by
    intro k
    induction k with
    | zero => intro n hn; rw [numS, dif_pos (by simpa using hn)]; simp
    | succ k ih =>
      intro n hn
      rw [numS]
      split
      · simp
      · have := ih (n / 10) (by rw [Nat.pow_succ] at hn; omega)
        simp; omega
  intro n hn
  exact h 6 n (by omega)
theorem dig_cut : ∀ n : Fin 10, (ByteArray.mk #[48, 49, 50, 51, 52, 53, 54, 55, 56, 57]).extract n.1 (n.1 + 1) = ⟨#[dg n.1]⟩ := by decide
theorem cat_sv (a b : List UInt8) : (⟨a.toArray⟩ : ByteArray) ++ ⟨b.toArray⟩ = ⟨(a ++ b).toArray⟩ := by
  apply ByteArray.ext
  simp
section
set_option maxHeartbeats 4000000 in
set_option maxRecDepth 100000 in
theorem num_is : ∀ (n : Nat) (_ : n ≤ 1000000) (w : World),
    Calls Tryz.prog 34 #[.int .i64 n] w fun e w' => e = .returned (sv (numS n)) ∧ Ext w w' := by
  intro n
  induction n using Nat.strongRecOn with
  | _ n ih =>
  intro hn w
  by_cases h : n < 10
  · have e1 : numS n = [dg n] := by rw [numS, dif_pos h]
    have e2 := dig_cut ⟨n, h⟩
    have d1 : decide ((n : Int) < 10) = true := decide_eq_true (by omega)
    have d1' : decide (n < 10) = true := decide_eq_true (by omega)
    rw [e1]
    simp only at e2
    clear ih e1
    go_enter Tryz.func34, Tryz.ntmps34
    go_wp2
    go_ret
    exact ⟨rfl, Ext.refl _⟩
  · have e1 : numS n = numS (n / 10) ++ [dg (n % 10)] := by rw [numS, dif_neg h]
    have e2 := dig_cut ⟨n % 10, by omega⟩
    have d1 : decide ((n : Int) < 10) = false := decide_eq_false (by omega)
    have d1' : decide (n < 10) = false := decide_eq_false (by omega)
    have q0 : ((n / 10 : Nat) : Int) = (n : Int) / 10 := by omega
    have q1 : ((n % 10 : Nat) : Int) = (n : Int) % 10 := by omega
    have q2 : (n : Int) % 10 + 1 ≤ 10 := by omega
    have q3 : 0 ≤ (n : Int) % 10 := by omega
    have RN := Lib.hid (fun W => ih (n / 10) (by omega) (by omega) W)
    have HN := Lib.hid e1
    rw [q0] at RN
    simp only at e2
    have h7 := numS_len (n / 10) (by omega)
    unfold sv at RN
    have hsz : (ByteArray.mk (numS (n / 10)).toArray).size ≤ 100 := by show (numS (n / 10)).toArray.size ≤ 100; simp; omega
    have HX := Lib.hid (show sv (numS n) = .string ((ByteArray.mk (numS (n / 10)).toArray) ++ ⟨#[dg (n % 10)]⟩) by rw [e1, sv, show (ByteArray.mk #[dg (n % 10)]) = ⟨[dg (n % 10)].toArray⟩ from rfl, cat_sv])
    generalize ByteArray.mk (numS (n / 10)).toArray = X at *
    clear ih e1 h7
    go_enter Tryz.func34, Tryz.ntmps34
    go_wp2
    refine wp_region_on (by kernel_rfl) (by kernel_rfl) ?_
    repeat (go_big_quiet_step ((go_at_call 34; exact on_call (fun W _ => RN.out W) _)))
    refine wpQuiet_nil ?_
    intro W hW
    go_wp2
    go_ret
    exact ⟨ret_val HX.out.symm, hW⟩

/-- The text of a part, as far as k places. -/
def preT (size : Nat) (l : List Int) (k : Nat) : List UInt8 := numS size ++ 58 :: (l.take k).flatMap fun x => 32 :: numS x.toNat
theorem preT_zero (size : Nat) (l : List Int) : preT size l 0 = numS size ++ [58] := by simp [preT]
theorem preT_succ (size : Nat) (l : List Int) (k : Nat) (hk : k < l.length) : preT size l (k + 1) = preT size l k ++ 32 :: numS (l.getD k 0).toNat := by
  unfold preT
  rw [List.take_add_one, List.getElem?_eq_getElem hk, List.flatMap_append, List.getD_eq_getElem?_getD, List.getElem?_eq_getElem hk]
  simp
theorem preT_end (size : Nat) (l : List Int) (k : Nat) (hk : l.length ≤ k) : preT size l k = partS size (l.map Int.toNat) := by
  unfold preT partS
  rw [List.take_of_length_le hk, List.flatMap_map]
theorem preT_len (size : Nat) (l : List Int) (hs : size ≤ 1000000) (hl : ∀ x ∈ l, x ≤ 1000000) (k : Nat) : (preT size l k).length ≤ 8 + 8 * k := by
  induction k with
  | zero => rw [preT_zero]; have := numS_len size hs; simp; omega
  | succ k ih =>
    by_cases hk : k < l.length
    · rw [preT_succ size l k hk]
      have hx : l.getD k 0 ≤ 1000000 := by rw [List.getD_eq_getElem?_getD, List.getElem?_eq_getElem hk]; exact hl _ (List.getElem_mem hk)
      have := numS_len (l.getD k 0).toNat (by omega)
      simp only [List.length_append, List.length_cons]; omega
    · rw [show preT size l (k + 1) = preT size l k by unfold preT; rw [List.take_of_length_le (by omega), List.take_of_length_le (by omega)]]
      omega
set_option maxHeartbeats 4000000 in
set_option maxRecDepth 100000 in
theorem part_is (A : Option Addr) (n c : Nat) (l : List Int) (size : Nat) (hn : n ≤ 1000) (hs : size ≤ 1000000) (hl : ∀ x ∈ l, 0 ≤ x ∧ x ≤ 1000000) (w : World) (h : Il w A n l) :
    Calls Tryz.prog 20 #[.int .i64 size, .slice A n c] w fun e w' => e = .returned (sv (partS size (l.map Int.toNat))) ∧ Ext w w' := by
  have H := Lib.hid h
  have HL := Lib.hid (fun k => preT_len size l hs (fun x hx => (hl x hx).2) k)
  have RN := Lib.hid (fun W => num_is size hs W)
  have hx1 := numS_len size hs
  have hsz : (ByteArray.mk (numS size).toArray).size ≤ 100 := by show (numS size).toArray.size ≤ 100; simp; omega
  have HX := Lib.hid (show ByteArray.mk (numS size).toArray ++ ⟨#[58]⟩ = ⟨(preT size l 0).toArray⟩ by rw [preT_zero, ← cat_sv])
  unfold sv at RN
  generalize ByteArray.mk (numS size).toArray = Z at *
  clear h hx1
  go_enter Tryz.func20, Tryz.ntmps20
  go_wp2_with (go_at_call 34; with_reducible refine (RN.out _).mono ?_; rintro e w1 ⟨rfl, k1⟩)
  have HE := Lib.hid k1
  clear k1 RN
  go_loopg [5, 6] n (fun m v i wr => ∃ k : Nat, k + m = n ∧ i = .int .i64 k ∧ v = sv (preT size l k) ∧ Ext w1 wr)
  case atStart => exact ⟨0, by omega, rfl, by rw [HX.out]; rfl, Ext.refl _⟩
  case round =>
    obtain ⟨k, hk, rfl, rfl, hE⟩ := hrel
    unfold sv
    by_cases hlt : k < n
    · obtain ⟨ad, rfl, hb, hcell⟩ := (H.out.ext (Ext.trans HE.out hE)).at_ hlt
      have ck := hcell k hlt
      have h5 : (k : Int) < n := by omega
      have h6 : (k : Int) + 1 ≤ 1000000 := by omega
      have hkl : k < l.length := by rw [H.out.1]; exact hlt
      have hx := hl (l.getD k 0) (by rw [List.getD_eq_getElem?_getD, List.getElem?_eq_getElem hkl]; exact List.getElem_mem hkl)
      have ht := preT_succ size l k hkl
      generalize l.getD k 0 = y at *
      obtain ⟨y, rfl⟩ : ∃ j : Nat, y = j := ⟨y.toNat, by omega⟩
      have RN := Lib.hid (fun W => num_is y (by omega) W)
      unfold sv at RN
      have l1 := numS_len y (by omega)
      have l2 := HL.out k
      have s1 : (ByteArray.mk (preT size l k).toArray).size ≤ 20000 := by show (preT size l k).toArray.size ≤ 20000; simp; omega
      have s2 : (ByteArray.mk (numS y).toArray).size ≤ 100 := by show (numS y).toArray.size ≤ 100; simp; omega
      have s3 : (ByteArray.mk (preT size l k).toArray ++ ⟨#[32]⟩).size ≤ 20001 := by rw [ByteArray.size_append]; have : (ByteArray.mk #[32]).size = 1 := rfl; omega
      have HX2 := Lib.hid (show ByteArray.mk (preT size l k).toArray ++ ⟨#[32]⟩ ++ ⟨(numS y).toArray⟩ = ⟨(preT size l (k + 1)).toArray⟩ by rw [ht, show ByteArray.mk #[32] = ⟨[32].toArray⟩ from rfl, cat_sv, cat_sv]; simp)
      have HH := Lib.hid (And.intro hE hk)
      generalize ByteArray.mk (preT size l k).toArray = P1 at *
      generalize ByteArray.mk (numS y).toArray = P2 at *
      clear hE hcell hk ht hkl l1 l2
      go_wp2_with (go_at_call 34; with_reducible refine (RN.out _).mono ?_; rintro e w2 ⟨rfl, k2⟩)
      go_roundg (gk - 1)
      case measure => have := HH.out.2; omega
      case rel => exact ⟨k + 1, by have := HH.out.2; omega, by go_num, by rw [HX2.out]; rfl, Ext.trans HH.out.1 k2⟩
    · obtain rfl : k = n := by omega
      have h5 : ¬ (k : Int) < k := by omega
      have HN := Lib.hid (preT_end size l k (by rw [H.out.1]; exact Nat.le_refl _))
      have HH := Lib.hid hE
      clear hE hk
      generalize hP : ByteArray.mk (preT size l k).toArray = P1 at *
      have HP := Lib.hid hP
      clear hP
      go_wp2
      go_ret
      exact ⟨ret_val (show Value.string P1 = sv _ by rw [← HN.out, sv, HP.out]), Ext.trans HE.out HH.out⟩
end
end Go.Proofs.YtgmpcinlkiiboaaGreatDoor
