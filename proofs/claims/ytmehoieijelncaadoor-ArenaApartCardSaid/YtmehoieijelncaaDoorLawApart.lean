/- selionlaw03.ArenaApart: the walk (made by gen_laws.py). -/
import Derived.Test.YtmehoieijelncaaDoorLawApart1
import Derived.Test.YtmehoieijelncaaDoorLawApart2
namespace Go.Proofs.YtmehoieijelncaaDoor
open Go.RowKit Go
section
variable {a : Nat → Addr}
theorem apart_walk (b : Int) (A : Option Addr) (n c : Nat) (xs : List OpR) (x : Int) (S0 : List UInt8) (y : Int) (T0 : List UInt8) (hb : -9223372036854775808 ≤ b ∧ b ≤ 9223372036854775807) (_hx : -9223372036854775808 ≤ x ∧ x ≤ 9223372036854775807) (_hS0 : S0.length ≤ maxLen) (_hy : -9223372036854775808 ≤ y ∧ y ≤ 9223372036854775807) (_hT0 : T0.length ≤ maxLen) (w : World) (hO : OpsAt w A n xs) (hG : G a w) :
    Calls Tryd.prog 7 #[.int .i64 b, .slice A n c, .int .i64 x, .string ⟨S0.toArray⟩, .int .i64 y, .string ⟨T0.toArray⟩] w fun e w' => e = .returned (.bool true) ∧ Ext w w' := by
  by_cases hb1 : 1 ≤ b ∧ b ≤ 32
  · obtain ⟨b, rfl⟩ : ∃ k : Nat, b = k := ⟨b.toNat, by omega⟩
    obtain ⟨L, hL, hM⟩ := made_L (a := a) b (by omega) (by omega) A n c xs w hO hG
    by_cases hs : S0.length ≤ 100 <;> by_cases ht : T0.length ≤ 100
    · by_cases x0 : x < 0
      · exact apart_e000 L _ rfl (by omega) b A n c x S0 _ rfl y T0 _ rfl hs ht x0 w hG hM
      · by_cases y0 : y < 0
        · exact apart_e100 L _ rfl (by omega) b A n c x S0 _ rfl y T0 _ rfl hs ht (by omega) y0 w hG hM
        · by_cases x1 : (L.length : Int) < x
          · exact apart_e200 L _ rfl (by omega) b A n c x S0 _ rfl y T0 _ rfl hs ht (by omega) (by omega) x1 w hG hM
          · by_cases y1 : (L.length : Int) < y
            · exact apart_e300 L _ rfl (by omega) b A n c x S0 _ rfl y T0 _ rfl hs ht (by omega) (by omega) (by omega) y1 w hG hM
            · by_cases m1 : y < x + (S0.take 100).length
              · by_cases m2 : x < y + (T0.take 100).length
                · exact apart_e400 L _ rfl (by omega) b A n c x S0 _ rfl y T0 _ rfl hs ht (by omega) (by omega) (by omega) (by omega) m1 m2 w hG hM
                · exact apart_m100 L _ rfl (by omega) b A n c x S0 _ rfl y T0 _ rfl hs ht (by omega) (by omega) (by omega) (by omega) m1 (by omega) w hG hM
              · exact apart_m000 L _ rfl (by omega) b A n c x S0 _ rfl y T0 _ rfl hs ht (by omega) (by omega) (by omega) (by omega) (by omega) w hG hM
    · by_cases x0 : x < 0
      · exact apart_e001 L _ rfl (by omega) b A n c x S0 _ rfl y T0 _ rfl hs ht x0 w hG hM
      · by_cases y0 : y < 0
        · exact apart_e101 L _ rfl (by omega) b A n c x S0 _ rfl y T0 _ rfl hs ht (by omega) y0 w hG hM
        · by_cases x1 : (L.length : Int) < x
          · exact apart_e201 L _ rfl (by omega) b A n c x S0 _ rfl y T0 _ rfl hs ht (by omega) (by omega) x1 w hG hM
          · by_cases y1 : (L.length : Int) < y
            · exact apart_e301 L _ rfl (by omega) b A n c x S0 _ rfl y T0 _ rfl hs ht (by omega) (by omega) (by omega) y1 w hG hM
            · by_cases m1 : y < x + (S0.take 100).length
              · by_cases m2 : x < y + (T0.take 100).length
                · exact apart_e401 L _ rfl (by omega) b A n c x S0 _ rfl y T0 _ rfl hs ht (by omega) (by omega) (by omega) (by omega) m1 m2 w hG hM
                · exact apart_m101 L _ rfl (by omega) b A n c x S0 _ rfl y T0 _ rfl hs ht (by omega) (by omega) (by omega) (by omega) m1 (by omega) w hG hM
              · exact apart_m001 L _ rfl (by omega) b A n c x S0 _ rfl y T0 _ rfl hs ht (by omega) (by omega) (by omega) (by omega) (by omega) w hG hM
    · by_cases x0 : x < 0
      · exact apart_e010 L _ rfl (by omega) b A n c x S0 _ rfl y T0 _ rfl hs ht x0 w hG hM
      · by_cases y0 : y < 0
        · exact apart_e110 L _ rfl (by omega) b A n c x S0 _ rfl y T0 _ rfl hs ht (by omega) y0 w hG hM
        · by_cases x1 : (L.length : Int) < x
          · exact apart_e210 L _ rfl (by omega) b A n c x S0 _ rfl y T0 _ rfl hs ht (by omega) (by omega) x1 w hG hM
          · by_cases y1 : (L.length : Int) < y
            · exact apart_e310 L _ rfl (by omega) b A n c x S0 _ rfl y T0 _ rfl hs ht (by omega) (by omega) (by omega) y1 w hG hM
            · by_cases m1 : y < x + (S0.take 100).length
              · by_cases m2 : x < y + (T0.take 100).length
                · exact apart_e410 L _ rfl (by omega) b A n c x S0 _ rfl y T0 _ rfl hs ht (by omega) (by omega) (by omega) (by omega) m1 m2 w hG hM
                · exact apart_m110 L _ rfl (by omega) b A n c x S0 _ rfl y T0 _ rfl hs ht (by omega) (by omega) (by omega) (by omega) m1 (by omega) w hG hM
              · exact apart_m010 L _ rfl (by omega) b A n c x S0 _ rfl y T0 _ rfl hs ht (by omega) (by omega) (by omega) (by omega) (by omega) w hG hM
    · by_cases x0 : x < 0
      · exact apart_e011 L _ rfl (by omega) b A n c x S0 _ rfl y T0 _ rfl hs ht x0 w hG hM
      · by_cases y0 : y < 0
        · exact apart_e111 L _ rfl (by omega) b A n c x S0 _ rfl y T0 _ rfl hs ht (by omega) y0 w hG hM
        · by_cases x1 : (L.length : Int) < x
          · exact apart_e211 L _ rfl (by omega) b A n c x S0 _ rfl y T0 _ rfl hs ht (by omega) (by omega) x1 w hG hM
          · by_cases y1 : (L.length : Int) < y
            · exact apart_e311 L _ rfl (by omega) b A n c x S0 _ rfl y T0 _ rfl hs ht (by omega) (by omega) (by omega) y1 w hG hM
            · by_cases m1 : y < x + (S0.take 100).length
              · by_cases m2 : x < y + (T0.take 100).length
                · exact apart_e411 L _ rfl (by omega) b A n c x S0 _ rfl y T0 _ rfl hs ht (by omega) (by omega) (by omega) (by omega) m1 m2 w hG hM
                · exact apart_m111 L _ rfl (by omega) b A n c x S0 _ rfl y T0 _ rfl hs ht (by omega) (by omega) (by omega) (by omega) m1 (by omega) w hG hM
              · exact apart_m011 L _ rfl (by omega) b A n c x S0 _ rfl y T0 _ rfl hs ht (by omega) (by omega) (by omega) (by omega) (by omega) w hG hM
  · by_cases hs : S0.length ≤ 100 <;> by_cases ht : T0.length ≤ 100
    · exact apart_none00 b A n c x S0 _ rfl y T0 _ rfl hs ht w hG (fun W hW => made_no (a := a) b hb1 hb _ W (hG.ext hW))
    · exact apart_none01 b A n c x S0 _ rfl y T0 _ rfl hs ht w hG (fun W hW => made_no (a := a) b hb1 hb _ W (hG.ext hW))
    · exact apart_none10 b A n c x S0 _ rfl y T0 _ rfl hs ht w hG (fun W hW => made_no (a := a) b hb1 hb _ W (hG.ext hW))
    · exact apart_none11 b A n c x S0 _ rfl y T0 _ rfl hs ht w hG (fun W hW => made_no (a := a) b hb1 hb _ W (hG.ext hW))
end
end Go.Proofs.YtmehoieijelncaaDoor
