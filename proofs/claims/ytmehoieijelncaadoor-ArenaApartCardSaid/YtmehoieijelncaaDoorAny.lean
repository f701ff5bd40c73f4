/- arena: each method, whatever it is asked: one contract. -/
import Derived.Test.YtmehoieijelncaaDoorMeth2
import Derived.Test.YtmehoieijelncaaDoorMeth
import Derived.Test.YtmehoieijelncaaDoorNew
namespace Go.Proofs.YtmehoieijelncaaDoor
open Go.RowKit Go

theorem Chg.setNew {g : Nat} {a b : World} (h : Chg g a b) (q o : Nat) (v : Value) (hq : a.heap.size ≤ q) : Chg g a (b.setCell ⟨q, o, none⟩ v) :=
  ⟨h.os, h.tape, h.output, by have := h.size; simpa [World.setCell] using this, fun i hi hn => (Below.heap_setCell _ _ _ _ (show i ≠ q by omega)).trans (h.block i hi hn)⟩
theorem Ar.setNew {w : World} {p g : Nat} {L : List UInt8} (h : Ar w p g L) (q o : Nat) (v : Value) (h1 : p ≠ q) (h2 : g ≠ q) : Ar (w.setCell ⟨q, o, none⟩ v) p g L :=
  ⟨h.p.other _ _ h1, h.b.other _ _ h2, h.n0, h.le⟩

def okA (L : List UInt8) (x y : Int) : Prop := 0 ≤ x ∧ 0 ≤ y ∧ x + y ≤ L.length
instance (L : List UInt8) (x y : Int) : Decidable (okA L x y) := by unfold okA; infer_instance
def rdE (L : List UInt8) (x y : Int) : Int := if okA L x y then 0 else 10
def rdS (L : List UInt8) (x y : Int) : List UInt8 := if okA L x y then cut L x.toNat y.toNat else []
def zrL (L : List UInt8) (x y : Int) : List UInt8 := if okA L x y then lay L x.toNat (List.replicate y.toNat 0) else L
def wrL (L : List UInt8) (x : Int) (S : List UInt8) : List UInt8 := if okA L x S.length then lay L x.toNat S else L
def byV (L : List UInt8) (x : Int) : Int := if okA L x 1 then ((L.getD x.toNat 0).toNat : Int) else 0
def ptE (L : List UInt8) (x v : Int) : Int := if okA L x 1 then (if 0 ≤ v ∧ v ≤ 255 then 0 else 2) else 10
def ptL (L : List UInt8) (x v : Int) : List UInt8 := if okA L x 1 ∧ 0 ≤ v ∧ v ≤ 255 then L.set x.toNat (UInt8.ofNat v.toNat) else L
def ldE (L : List UInt8) (x : Int) : Int := if okA L x 4 ∧ x % 4 = 0 then 0 else 10
def ldV (L : List UInt8) (x : Int) : Nat := if okA L x 4 ∧ x % 4 = 0 then wv L x.toNat 4 else 0
def stL (L : List UInt8) (x : Int) (v : Nat) : List UInt8 := if okA L x 4 ∧ x % 4 = 0 then lay L x.toNat (wb v) else L
theorem zrL_len (L : List UInt8) (x y : Int) : (zrL L x y).length = L.length := by
  unfold zrL; split
  · rename_i h; unfold okA at h; exact lay_len _ _ _ (by rw [List.length_replicate]; omega)
  · rfl
theorem wrL_len (L : List UInt8) (x : Int) (S : List UInt8) : (wrL L x S).length = L.length := by
  unfold wrL; split
  · rename_i h; unfold okA at h; exact lay_len _ _ _ (by omega)
  · rfl
theorem ptL_len (L : List UInt8) (x v : Int) : (ptL L x v).length = L.length := by unfold ptL; split <;> simp
theorem stL_len (L : List UInt8) (x : Int) (v : Nat) : (stL L x v).length = L.length := by
  unfold stL; split
  · rename_i h; unfold okA at h; exact lay_len _ _ _ (by show _ + 4 ≤ _; omega)
  · rfl
section
variable {a : Nat → Addr}
abbrev Does (g p : Nat) (w : World) (v : Value) (L' : List UInt8) (e : Ending) (w' : World) : Prop := e = .returned v ∧ Chg g w w' ∧ Ar w' p g L'
theorem does_of_ext {f : FuncId} {args : Array Value} {w : World} {p g : Nat} {L : List UInt8} {v v' : Value} (hA : Ar w p g L) (hv : v = v') (h : Calls Tryd.prog f args w fun e w' => e = .returned v ∧ Ext w w') : Calls Tryd.prog f args w (Does g p w v' L) :=
  h.mono fun e w' ⟨he, hw⟩ => ⟨by rw [he, hv], Chg.of_ext hw, hA.ext hw⟩
theorem does_of {f : FuncId} {args : Array Value} {w : World} {p g : Nat} {L L' : List UInt8} {v v' : Value} (hv : v = v') (hL : L = L') (h : Calls Tryd.prog f args w fun e w' => e = .returned v ∧ Chg g w w' ∧ Ar w' p g L) : Calls Tryd.prog f args w (Does g p w v' L') := by
  subst hv; subst hL; exact h

theorem read_any (p g : Nat) (L : List UInt8) (x y : Int) (w : World) (hG : G a w) (hA : Ar w p g L) :
    Calls Tryd.prog 18 #[ptr p, .int .i64 x, .int .i64 y] w (Does g p w (.tuple #[.string ⟨(rdS L x y).toArray⟩, .int .i64 (rdE L x y)]) L) := by
  by_cases h : okA L x y
  · exact does_of_ext hA (by rw [rdS, rdE, if_pos h, if_pos h]) (read_ok p g L x y h w hG hA)
  · exact does_of_ext hA (by rw [rdS, rdE, if_neg h, if_neg h]) (read_no p g L x y h w hG hA)
theorem zero_any (p g : Nat) (L : List UInt8) (x y : Int) (w : World) (hG : G a w) (hA : Ar w p g L) :
    Calls Tryd.prog 15 #[ptr p, .int .i64 x, .int .i64 y] w (Does g p w (.int .i64 (rdE L x y)) (zrL L x y)) := by
  by_cases h : okA L x y
  · exact does_of (by rw [rdE, if_pos h]) (by rw [zrL, if_pos h]) (zero_ok p g L x y h w hG hA)
  · rw [zrL, if_neg h]
    exact does_of_ext hA (by rw [rdE, if_neg h]) (zero_no p g L x y h w hG hA)
theorem write_any (p g : Nat) (L : List UInt8) (x : Int) (S : List UInt8) (w : World) (hG : G a w) (hA : Ar w p g L) :
    Calls Tryd.prog 22 #[ptr p, .int .i64 x, .string ⟨S.toArray⟩] w (Does g p w (.int .i64 (rdE L x S.length)) (wrL L x S)) := by
  by_cases h : okA L x S.length
  · exact does_of (by rw [rdE, if_pos h]) (by rw [wrL, if_pos h]) (write_ok p g L x S (by unfold okA at h; omega) w hG hA)
  · rw [wrL, if_neg h]
    exact does_of_ext hA (by rw [rdE, if_neg h]) (write_no p g L x S (by unfold okA at h; omega) w hG hA)
theorem byte_any (p g : Nat) (L : List UInt8) (x : Int) (w : World) (hG : G a w) (hA : Ar w p g L) :
    Calls Tryd.prog 25 #[ptr p, .int .i64 x] w (Does g p w (.tuple #[.int .i64 (byV L x), .int .i64 (rdE L x 1)]) L) := by
  by_cases h : okA L x 1
  · exact does_of_ext hA (by rw [byV, rdE, if_pos h, if_pos h]) (byte_ok p g L x (by unfold okA at h; omega) w hG hA)
  · exact does_of_ext hA (by rw [byV, rdE, if_neg h, if_neg h]) (byte_no p g L x (by unfold okA at h; omega) w hG hA)
theorem put_any (p g : Nat) (L : List UInt8) (x v : Int) (w : World) (hG : G a w) (hA : Ar w p g L) :
    Calls Tryd.prog 26 #[ptr p, .int .i64 x, .int .i64 v] w (Does g p w (.int .i64 (ptE L x v)) (ptL L x v)) := by
  by_cases h : okA L x 1
  · by_cases hv : 0 ≤ v ∧ v ≤ 255
    · exact does_of (by rw [ptE, if_pos h, if_pos hv]) (by rw [ptL, if_pos ⟨h, hv⟩]) (put_ok p g L x v (by unfold okA at h; omega) hv w hG hA)
    · rw [ptL, if_neg (fun k => hv k.2)]
      exact does_of_ext hA (by rw [ptE, if_pos h, if_neg hv]) (put_arg p g L x v (by unfold okA at h; omega) hv w hG hA)
  · rw [ptL, if_neg (fun k => h k.1)]
    by_cases hv : 0 ≤ v ∧ v ≤ 255
    · exact does_of_ext hA (by rw [ptE, if_neg h]) (put_no p g L x v (by unfold okA at h; omega) hv w hG hA)
    · exact does_of_ext hA (by rw [ptE, if_neg h]) (put_no2 p g L x v (by unfold okA at h; omega) hv w hG hA)
theorem load_any (p g : Nat) (L : List UInt8) (x : Int) (w : World) (hG : G a w) (hA : Ar w p g L) :
    Calls Tryd.prog 24 #[ptr p, .int .i64 x] w (Does g p w (.tuple #[.int .u32 (ldV L x : Nat), .int .i64 (ldE L x)]) L) := by
  by_cases h : okA L x 4
  · by_cases hm : x % 4 = 0
    · exact does_of_ext hA (by rw [ldV, ldE, if_pos ⟨h, hm⟩, if_pos ⟨h, hm⟩]) (load_ok p g L x (by unfold okA at h; omega) hm w hG hA)
    · exact does_of_ext hA (by rw [ldV, ldE, if_neg (fun k => hm k.2), if_neg (fun k => hm k.2)]; rfl) (load_no3 p g L x (by unfold okA at h; omega) hm w hG hA)
  · by_cases hm : x % 4 = 0
    · exact does_of_ext hA (by rw [ldV, ldE, if_neg (fun k => h k.1), if_neg (fun k => h k.1)]; rfl) (load_no p g L x (by unfold okA at h; omega) hm w hG hA)
    · exact does_of_ext hA (by rw [ldV, ldE, if_neg (fun k => h k.1), if_neg (fun k => h k.1)]; rfl) (load_no2 p g L x (by unfold okA at h; omega) hm w hG hA)
theorem store_any (p g : Nat) (L : List UInt8) (x : Int) (v : Nat) (hv : v < 4294967296) (w : World) (hG : G a w) (hA : Ar w p g L) :
    Calls Tryd.prog 23 #[ptr p, .int .i64 x, .int .u32 (v : Nat)] w (Does g p w (.int .i64 (ldE L x)) (stL L x v)) := by
  by_cases h : okA L x 4
  · by_cases hm : x % 4 = 0
    · exact does_of (by rw [ldE, if_pos ⟨h, hm⟩]) (by rw [stL, if_pos ⟨h, hm⟩]) (store_ok p g L x v hv (by unfold okA at h; omega) hm w hG hA)
    · rw [stL, if_neg (fun k => hm k.2)]
      exact does_of_ext hA (by rw [ldE, if_neg (fun k => hm k.2)]) (store_no3 p g L x v (by unfold okA at h; omega) hm w hG hA)
  · rw [stL, if_neg (fun k => h k.1)]
    by_cases hm : x % 4 = 0
    · exact does_of_ext hA (by rw [ldE, if_neg (fun k => h k.1)]) (store_no p g L x v (by unfold okA at h; omega) hm w hG hA)
    · exact does_of_ext hA (by rw [ldE, if_neg (fun k => h k.1)]) (store_no2 p g L x v (by unfold okA at h; omega) hm w hG hA)

/-- A call, as the laws lay it. -/
structure OpR where
  kind : Int
  at_ : Int
  n : Int
  v : Nat
  s : List UInt8
def OpR.cells (x : OpR) : Array Value := #[.int .i64 x.kind, .int .i64 x.at_, .int .i64 x.n, .int .u32 (x.v : Nat), .string ⟨x.s.toArray⟩]
def doN (L : List UInt8) (x : OpR) : Int := if x.kind = 2 then byV L x.at_ else 0
def doV (L : List UInt8) (x : OpR) : Nat := if x.kind = 0 then ldV L x.at_ else 0
def doS (L : List UInt8) (x : OpR) : List UInt8 := if x.kind = 4 then rdS L x.at_ x.n else []
def doE (L : List UInt8) (x : OpR) : Int :=
  if x.kind = 0 then ldE L x.at_ else if x.kind = 1 then ldE L x.at_ else if x.kind = 2 then rdE L x.at_ 1 else if x.kind = 3 then ptE L x.at_ x.n else
  if x.kind = 4 then rdE L x.at_ x.n else if x.kind = 5 then rdE L x.at_ x.s.length else if x.kind = 6 then rdE L x.at_ x.n else 0
/-- the bytes behind the call -/
def doL (L : List UInt8) (x : OpR) : List UInt8 :=
  if x.kind = 1 then stL L x.at_ x.v else if x.kind = 3 then ptL L x.at_ x.n else if x.kind = 5 then wrL L x.at_ x.s else if x.kind = 6 then zrL L x.at_ x.n else L
theorem doL_len (L : List UInt8) (x : OpR) : (doL L x).length = L.length := by
  unfold doL
  split
  · exact stL_len _ _ _
  · split
    · exact ptL_len _ _ _
    · split
      · exact wrL_len _ _ _
      · split
        · exact zrL_len _ _ _
        · rfl
def doC (L : List UInt8) (x : OpR) : Array Value := #[.int .i64 (doN L x), .int .u32 (doV L x : Nat), .string ⟨(doS L x).toArray⟩, .int .i64 (doE L x)]
end
end Go.Proofs.YtmehoieijelncaaDoor
