/- What the laws over 'made' share: an arena of known bytes, or none; reads of it. -/
import Derived.Test.YtmehoieijelncaaDoorMadeA
namespace Go.Proofs.YtmehoieijelncaaDoor
open Go.RowKit Go
section
variable {a : Nat → Addr}
theorem made_L (b : Nat) (h1 : 1 ≤ b) (h2 : b ≤ 32) (A : Option Addr) (n c : Nat) (xs : List OpR) (w : World) (hO : OpsAt w A n xs) (hG : G a w) :
    ∃ L : List UInt8, L.length = 4096 * b ∧ ∀ W, Ext w W → Calls Tryd.prog 21 #[.int .i64 (b : Nat), .slice A n c] W (MadeP W L) :=
  ⟨behind b ((xs.take 20).map cutR), behind_len _ _, fun W hW => made_ok (a := a) b h1 h2 A n c (min n 20) xs _ rfl rfl W (hG.ext hW) (hO.ext hW)⟩
theorem read_is (p g : Nat) (L : List UInt8) (x y : Int) (S : List UInt8) (E : Int) (hS : rdS L x y = S) (hE : rdE L x y = E) (w : World) (hG : G a w) (hA : Ar w p g L) :
    Calls Tryd.prog 18 #[ptr p, .int .i64 x, .int .i64 y] w fun e w' => e = .returned (.tuple #[.string ⟨S.toArray⟩, .int .i64 E]) ∧ Ext w w' := by
  subst hS; subst hE
  by_cases h : okA L x y
  · rw [rdS, rdE, if_pos h, if_pos h]; exact read_ok p g L x y h w hG hA
  · rw [rdS, rdE, if_neg h, if_neg h]; exact read_no p g L x y h w hG hA
theorem rd_ok {L : List UInt8} {x y : Int} (h : okA L x y) : rdS L x y = cut L x.toNat y.toNat ∧ rdE L x y = 0 := by rw [rdS, rdE, if_pos h, if_pos h]; exact ⟨rfl, rfl⟩
theorem rd_no {L : List UInt8} {x y : Int} (h : ¬ okA L x y) : rdS L x y = [] ∧ rdE L x y = 10 := by rw [rdS, rdE, if_neg h, if_neg h]; exact ⟨rfl, rfl⟩
theorem size_is (p g : Nat) (L : List UInt8) (n : Int) (hn : (L.length : Int) = n) (w : World) (hG : G a w) (hA : Ar w p g L) :
    Calls Tryd.prog 14 #[ptr p] w fun e w' => e = .returned (.int .i64 n) ∧ Ext w w' := by
  subst hn; exact size_any p g L w hG hA
theorem count_is (p g : Nat) (L : List UInt8) (n : Int) (hn : ((nz L : Nat) : Int) = n) (w : World) (hG : G a w) (hA : Ar w p g L) :
    Calls Tryd.prog 19 #[ptr p] w fun e w' => e = .returned (.int .i64 n) ∧ Ext w w' := by
  subst hn; exact count_any p g L w hG hA
theorem str_app (s t : List UInt8) : (⟨s.toArray⟩ ++ ⟨t.toArray⟩ : ByteArray) = ⟨(s ++ t).toArray⟩ := by
  apply ByteArray.ext; simp
theorem str_list (s : List UInt8) : (⟨s.toArray⟩ : ByteArray).data.toList = s := by simp
end
end Go.Proofs.YtmehoieijelncaaDoor
