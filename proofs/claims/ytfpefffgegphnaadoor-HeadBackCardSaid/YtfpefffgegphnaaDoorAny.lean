/- arena: each method, whatever it is asked: one contract. -/
import Derived.Test.YtfpefffgegphnaaDoorOn
import Derived.Test.YtfpefffgegphnaaDoorMeth
import Derived.Test.YtfpefffgegphnaaDoorNew
namespace Go.Proofs.YtfpefffgegphnaaDoor
open Go.RowKit Go

theorem Chg.setNew {g : Nat} {a b : World} (h : Chg g a b) (q o : Nat) (v : Value) (hq : a.heap.size ≤ q) : Chg g a (b.setCell ⟨q, o, none⟩ v) :=
  ⟨h.os, h.tape, h.output, by have := h.size; simpa [World.setCell] using this, fun i hi hn => (Below.heap_setCell _ _ _ _ (show i ≠ q by omega)).trans (h.block i hi hn)⟩
theorem Ar.setNew {w : World} {p g : Nat} {L : List UInt8} (h : Ar w p g L) (q o : Nat) (v : Value) (h1 : p ≠ q) (h2 : g ≠ q) : Ar (w.setCell ⟨q, o, none⟩ v) p g L :=
  ⟨h.p.other _ _ h1, h.b.other _ _ h2, h.n0, h.le⟩

def okA (L : List UInt8) (x y : Int) : Prop := 0 ≤ x ∧ 0 ≤ y ∧ x + y ≤ L.length
instance (L : List UInt8) (x y : Int) : Decidable (okA L x y) := by unfold okA; infer_instance
def rdE (L : List UInt8) (x y : Int) : Int := if okA L x y then 0 else 10
def rdS (L : List UInt8) (x y : Int) : List UInt8 := if okA L x y then cut L x.toNat y.toNat else []
def zrL (L : List UInt8) (x y : Int) : List UInt8 := if okA L x y then lay L x.toNat (List.replicate y.toNat 0) else L
def wrL (L : List UInt8) (x : Int) (S : List UInt8) : List UInt8 := if okA L x S.length then lay L x.toNat S else L
def byV (L : List UInt8) (x : Int) : Int := if okA L x 1 then ((L.getD x.toNat 0).toNat : Int) else 0
def ptE (L : List UInt8) (x v : Int) : Int := if okA L x 1 then (if 0 ≤ v ∧ v ≤ 255 then 0 else 2) else 10
def ptL (L : List UInt8) (x v : Int) : List UInt8 := if okA L x 1 ∧ 0 ≤ v ∧ v ≤ 255 then L.set x.toNat (UInt8.ofNat v.toNat) else L
theorem zrL_len (L : List UInt8) (x y : Int) : (zrL L x y).length = L.length := by
  unfold zrL; split
  · rename_i h; unfold okA at h; exact lay_len _ _ _ (by rw [List.length_replicate]; omega)
  · rfl
theorem wrL_len (L : List UInt8) (x : Int) (S : List UInt8) : (wrL L x S).length = L.length := by
  unfold wrL; split
  · rename_i h; unfold okA at h; exact lay_len _ _ _ (by omega)
  · rfl
theorem ptL_len (L : List UInt8) (x v : Int) : (ptL L x v).length = L.length := by unfold ptL; split <;> simp
section
variable {a : Nat → Addr}
abbrev Does (g p : Nat) (w : World) (v : Value) (L' : List UInt8) (e : Ending) (w' : World) : Prop := e = .returned v ∧ Chg g w w' ∧ Ar w' p g L'
theorem does_of_ext {f : FuncId} {args : Array Value} {w : World} {p g : Nat} {L : List UInt8} {v v' : Value} (hA : Ar w p g L) (hv : v = v') (h : Calls Tryd.prog f args w fun e w' => e = .returned v ∧ Ext w w') : Calls Tryd.prog f args w (Does g p w v' L) :=
  h.mono fun e w' ⟨he, hw⟩ => ⟨by rw [he, hv], Chg.of_ext hw, hA.ext hw⟩
theorem does_of {f : FuncId} {args : Array Value} {w : World} {p g : Nat} {L L' : List UInt8} {v v' : Value} (hv : v = v') (hL : L = L') (h : Calls Tryd.prog f args w fun e w' => e = .returned v ∧ Chg g w w' ∧ Ar w' p g L) : Calls Tryd.prog f args w (Does g p w v' L') := by
  subst hv; subst hL; exact h

theorem read_any (p g : Nat) (L : List UInt8) (x y : Int) (w : World) (hG : G a w) (hA : Ar w p g L) :
    Calls Tryd.prog 27 #[ptr p, .int .i64 x, .int .i64 y] w (Does g p w (.tuple #[.string ⟨(rdS L x y).toArray⟩, .int .i64 (rdE L x y)]) L) := by
  by_cases h : okA L x y
  · exact does_of_ext hA (by rw [rdS, rdE, if_pos h, if_pos h]) (read_ok p g L x y h w hG hA)
  · exact does_of_ext hA (by rw [rdS, rdE, if_neg h, if_neg h]) (read_no p g L x y h w hG hA)
theorem write_any (p g : Nat) (L : List UInt8) (x : Int) (S : List UInt8) (w : World) (hG : G a w) (hA : Ar w p g L) :
    Calls Tryd.prog 23 #[ptr p, .int .i64 x, .string ⟨S.toArray⟩] w (Does g p w (.int .i64 (rdE L x S.length)) (wrL L x S)) := by
  by_cases h : okA L x S.length
  · exact does_of (by rw [rdE, if_pos h]) (by rw [wrL, if_pos h]) (write_ok p g L x S (by unfold okA at h; omega) w hG hA)
  · rw [wrL, if_neg h]
    exact does_of_ext hA (by rw [rdE, if_neg h]) (write_no p g L x S (by unfold okA at h; omega) w hG hA)
end
end Go.Proofs.YtfpefffgegphnaaDoor
