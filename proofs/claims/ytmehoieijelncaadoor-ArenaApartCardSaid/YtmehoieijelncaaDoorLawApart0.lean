/- selionlaw03.ArenaApart: the walk (made by gen_laws.py). -/
import Derived.Test.YtmehoieijelncaaDoorLawBack
import Derived.Test.YtmehoieijelncaaDoorLaw
namespace Go.Proofs.YtmehoieijelncaaDoor
open Go.RowKit Go
section
variable {a : Nat → Addr}
theorem write_is (p g : Nat) (L : List UInt8) (x : Int) (S : List UInt8) (E : Int) (L' : List UInt8) (hE : rdE L x S.length = E) (hL : wrL L x S = L') (w : World) (hG : G a w) (hA : Ar w p g L) :
    Calls Tryd.prog 22 #[ptr p, .int .i64 x, .string ⟨S.toArray⟩] w (Does g p w (.int .i64 E) L') := by
  subst hE; subst hL; exact write_any p g L x S w hG hA
theorem rdE_len {L M : List UInt8} (h : L.length = M.length) (x y : Int) : rdE L x y = rdE M x y := by
  have : okA L x y ↔ okA M x y := by unfold okA; rw [h]
  unfold rdE
  by_cases k : okA L x y
  · rw [if_pos k, if_pos (this.1 k)]
  · rw [if_neg k, if_neg (fun k' => k (this.2 k'))]
theorem lay_comm (L : List UInt8) (x y : Nat) (S T : List UInt8) (h1 : x + S.length ≤ L.length) (h2 : y + T.length ≤ L.length) (h : x + S.length ≤ y ∨ y + T.length ≤ x) : lay (lay L x S) y T = lay (lay L y T) x S := by
  have l1 := lay_len L x S h1
  have l2 := lay_len L y T h2
  have l3 := lay_len (lay L x S) y T (by omega)
  have l4 := lay_len (lay L y T) x S (by omega)
  apply List.ext_getElem (by omega)
  intro i hi1 hi2
  have e1 := lay_get (lay L x S) y T (by omega) i
  have e2 := lay_get (lay L y T) x S (by omega) i
  rw [List.getD, List.getElem?_eq_getElem hi1] at e1
  rw [List.getD, List.getElem?_eq_getElem hi2] at e2
  simp only [Option.getD_some] at e1 e2
  rw [e1, e2, lay_get L x S h1 i, lay_get L y T h2 i]
  by_cases k1 : y ≤ i ∧ i < y + T.length
  · rw [if_pos k1, if_neg (by omega), if_pos k1]
  · rw [if_neg k1, if_neg k1]
theorem wr_comm (L : List UInt8) (x y : Int) (S T : List UInt8) (h : x + S.length ≤ y ∨ y + T.length ≤ x) : wrL (wrL L x S) y T = wrL (wrL L y T) x S := by
  have l1 := wrL_len L x S
  have l2 := wrL_len L y T
  have k1 : okA (wrL L y T) x S.length ↔ okA L x S.length := by unfold okA; rw [l2]
  have k2 : okA (wrL L x S) y T.length ↔ okA L y T.length := by unfold okA; rw [l1]
  by_cases h1 : okA L x S.length
  · by_cases h2 : okA L y T.length
    · have e1 : wrL L x S = lay L x.toNat S := by rw [wrL, if_pos h1]
      have e2 : wrL L y T = lay L y.toNat T := by rw [wrL, if_pos h2]
      have E1 : wrL (wrL L x S) y T = lay (wrL L x S) y.toNat T := by
        generalize wrL L x S = M at *
        rw [wrL, if_pos (k2.2 h2)]
      have E2 : wrL (wrL L y T) x S = lay (wrL L y T) x.toNat S := by
        generalize wrL L y T = M at *
        rw [wrL, if_pos (k1.2 h1)]
      rw [E1, E2, e1, e2]
      unfold okA at h1 h2
      exact lay_comm L _ _ S T (by omega) (by omega) (by omega)
    · have e2 : wrL L y T = L := by rw [wrL, if_neg h2]
      have E1 : wrL (wrL L x S) y T = wrL L x S := by
        generalize wrL L x S = M at *
        rw [wrL, if_neg (fun k => h2 (k2.1 k))]
      rw [e2, E1]
  · have e1 : wrL L x S = L := by rw [wrL, if_neg h1]
    have E2 : wrL (wrL L y T) x S = wrL L y T := by
      generalize wrL L y T = M at *
      rw [wrL, if_neg (fun k => h1 (k1.1 k))]
    rw [e1, E2]
theorem extract_allN (l : List UInt8) (m : Nat) (h : l.length ≤ m) : ByteArray.extract ⟨l.toArray⟩ 0 l.length = ⟨(l.take m).toArray⟩ := by
  rw [extract_take, List.take_length, List.take_of_length_le h]
end
end Go.Proofs.YtmehoieijelncaaDoor
