/- Joined texts, in their order: KAs, KEnv, KFind, KRight. -/
import Derived.Test.YtopgbggighaknaaGreatDoorChecked
import Derived.WalkKit
import Derived.WalkSpells
import Derived.WalkLawsBesides
import Derived.LaidEql
import Derived.Stop.Asserts
import Derived.RowKitTokens
import Derived.Laws.CopyOwn
import Derived.Test.YtopgbggighaknaaGreatDoorM01
import Derived.Test.YtopgbggighaknaaGreatDoorM07
import Derived.Test.YtopgbggighaknaaGreatDoorM13
import Derived.Test.YtopgbggighaknaaGreatDoorM06
/- kinds: errors.As at a target of a struct's type (kinds.wrong), as contracts over this translation. -/
namespace Go.Proofs.YtopgbggighaknaaGreatDoor
namespace K
open Go.RowKit Go.Extern.Stop Go.Stop Go.Extern
theorem as_nil (t : Value) (w : World) :
    Calls Tryz.prog 47 #[.nilIface, t] w fun e w' => e = .returned (.bool false) ∧ w' = w := by
  go_enter Tryz.func47, Tryz.ntmps47
  go_wp2
  go_ret
  exact ⟨rfl, rfl⟩
theorem asValueP (t : Addr) (w : World) : (ReflectliteValue.unpack (.iface 77 (.pointer (some t)))).run Tryz.prog w
    = .ok (.agg #[.pointer (some ⟨12, 77, none⟩), .pointer (some ⟨w.heap.size, 0, none⟩), .int .u64 150]) (w.alloc (.cells #[.pointer (some t)] 77)) := by kernel_rfl
theorem asTypeP (a : Addr) (w : World) : (ReflectliteValue.methodAny (ReflectliteValue.valueError "reflectlite.Value.Type" 0) (fun t _ _ _ => ReflectliteType.toType t) #[.agg #[.pointer (some ⟨12, 77, none⟩), .pointer (some a), .int .u64 150]]).run Tryz.prog w
    = .ok (.iface 117 (.agg #[.pointer (some ⟨12, 77, none⟩)])) w := by kernel_rfl
theorem asMethodKind (h : Value) (w : World) : (Go.method 289 117 (.agg #[h]) "Kind").run Tryz.prog w = .ok (119, h) w := by kernel_rfl
theorem asKindP (w : World) : ((ReflectliteType.abiMethod fun t => (fun a : Nat => Value.int IntKind.u8 (a : Int)) <$> Rtype.kind t) #[.pointer (some ⟨12, 77, none⟩)]).run Tryz.prog w = .ok (.int .u8 22) w := by kernel_rfl
theorem asKindS (w : World) : ((ReflectliteType.abiMethod fun t => (fun a : Nat => Value.int IntKind.u8 (a : Int)) <$> Rtype.kind t) #[.pointer (some ⟨12, 75, none⟩)]).run Tryz.prog w = .ok (.int .u8 25) w := by kernel_rfl
theorem rlm (z : Sem Value) (f : TypeId → Addr → Nat → Nat → Sem Value) (v : Value) :
    ReflectliteValue.method z f #[v] = (do match ← ReflectliteValue.parts v with | none => z | some (t, a, fl) => f t a fl (fl % 32)) := rfl
theorem asPartsP (a : Addr) (w : World) : (ReflectliteValue.parts (.agg #[.pointer (some ⟨12, 77, none⟩), .pointer (some a), .int .u64 150])).run Tryz.prog w = .ok (some (77, a, 150)) w := by kernel_rfl
theorem asIsNil (a p : Addr) (W : World) (ha : W.cell? a = some (.pointer (some p))) :
    (ReflectliteValue.method (ReflectliteValue.valueError "reflectlite.Value.IsNil" 0) ReflectliteValue.isNil #[.agg #[.pointer (some ⟨12, 77, none⟩), .pointer (some a), .int .u64 150]]).run Tryz.prog W = .ok (.bool false) W := by
  rw [rlm]
  simp only [Sem.run_bind, asPartsP, Result.andThen]
  simp [ReflectliteValue.isNil, loadVar, isAgg, underlying, Tryz.underlying77, ha, Result.andThen]
theorem asMethodElem (h : Value) (w : World) : (Go.method 289 117 (.agg #[h]) "Elem").run Tryz.prog w = .ok (133, .agg #[h]) w := by kernel_rfl
theorem asMethodImplements (h : Value) (w : World) : (Go.method 289 117 (.agg #[h]) "Implements").run Tryz.prog w = .ok (134, .agg #[h]) w := by kernel_rfl
theorem asMethodAssignableTo (h : Value) (w : World) : (Go.method 289 117 (.agg #[h]) "AssignableTo").run Tryz.prog w = .ok (131, .agg #[h]) w := by kernel_rfl
theorem asElemP (w : World) : (ReflectliteType.method ReflectliteType.elem #[.agg #[.pointer (some ⟨12, 77, none⟩)]]).run Tryz.prog w = .ok (.iface 117 (.agg #[.pointer (some ⟨12, 75, none⟩)])) w := by kernel_rfl
theorem asImplements (w : World) : (ReflectliteType.relation "Implements" ReflectliteType.implements_ #[.agg #[.pointer (some ⟨12, 75, none⟩)], .iface 117 (.agg #[.pointer (some ⟨12, 48, none⟩)])]).run Tryz.prog w = .ok (.bool true) w := by kernel_rfl
theorem asTypeOfS (v : Value) (w : World) : (ReflectliteType.typeOf #[.iface 75 v]).run Tryz.prog w = .ok (.iface 117 (.agg #[.pointer (some ⟨12, 75, none⟩)])) w := by kernel_rfl
theorem asAssignable (w : World) : (ReflectliteType.relation "AssignableTo" ReflectliteType.assignableTo #[.agg #[.pointer (some ⟨12, 75, none⟩)], .iface 117 (.agg #[.pointer (some ⟨12, 75, none⟩)])]).run Tryz.prog w = .ok (.bool true) w := by kernel_rfl
theorem asValueS (x y : Value) (w : World) : (ReflectliteValue.unpack (.iface 75 (.agg #[x, y]))).run Tryz.prog w
    = .ok (.agg #[.pointer (some ⟨12, 75, none⟩), .pointer (some ⟨w.heap.size, 0, none⟩), .int .u64 153]) (w.alloc (.cells #[x, y] 75)) := by kernel_rfl
theorem asElemOf (w : World) : (Rtype.elem? 77).run Tryz.prog w = .ok (some 75) w := by kernel_rfl
theorem asMk (p : Addr) (w : World) : (ReflectliteValue.mk 75 p ReflectliteValue.flagAddr).run Tryz.prog w = .ok (.agg #[.pointer (some ⟨12, 75, none⟩), .pointer (some p), .int .u64 409]) w := by kernel_rfl
theorem asElemV (a p : Addr) (W : World) (ha : W.cell? a = some (.pointer (some p))) :
    (ReflectliteValue.method (ReflectliteValue.valueError "reflectlite.Value.Elem" 0) ReflectliteValue.elem #[.agg #[.pointer (some ⟨12, 77, none⟩), .pointer (some a), .int .u64 150]]).run Tryz.prog W
      = .ok (.agg #[.pointer (some ⟨12, 75, none⟩), .pointer (some p), .int .u64 409]) W := by
  rw [rlm]
  simp only [Sem.run_bind, asPartsP, Result.andThen]
  simp [ReflectliteValue.elem, loadVar, isAgg, underlying, Tryz.underlying77, ha, Result.andThen, asElemOf, asMk]
theorem rls (v x : Value) : ReflectliteValue.set #[v, x] = (do
    let (some (dst, a, fl), some (src, b, _)) := (← ReflectliteValue.parts v, ← ReflectliteValue.parts x)
      | unsupported (.noEntry "extern/(internal/reflectlite.Value).Set.zeroValue")
    if fl / ReflectliteValue.flagAddr % 2 == 0 then unsupported (.noEntry "extern/(internal/reflectlite.Value).Set.unaddressable")
    let val ← loadVar src b
    if ← Rtype.directlyAssignable dst src then storeVar dst a val
    else if ← Rtype.implements dst src then
      if (← Rtype.kind src) == 20 then
        match val with
        | .nilIface => unsupported (.noEntry "extern/reflectlite: a nil value of one interface type handed on as a value of another")
        | _ => storeVar dst a val
      else storeVar dst a (.iface src val)
    else panicString ("reflectlite.Set: value of type " ++ (← Rtype.spelt src) ++ " is not assignable to type " ++ (← Rtype.spelt dst))
    pure (.tuple #[])) := rfl
theorem asPartsA (a : Addr) (w : World) : (ReflectliteValue.parts (.agg #[.pointer (some ⟨12, 75, none⟩), .pointer (some a), .int .u64 409])).run Tryz.prog w = .ok (some (75, a, 409)) w := by kernel_rfl
theorem asPartsS (a : Addr) (w : World) : (ReflectliteValue.parts (.agg #[.pointer (some ⟨12, 75, none⟩), .pointer (some a), .int .u64 153])).run Tryz.prog w = .ok (some (75, a, 153)) w := by kernel_rfl
theorem asDirect (w : World) : (Rtype.directlyAssignable 75 75).run Tryz.prog w = .ok true w := by kernel_rfl
theorem asLoad (b : Nat) (x y : Value) (W : World) (h0 : W.cell? ⟨b, 0, none⟩ = some x) (h1 : W.cell? ⟨b, 1, none⟩ = some y) : (loadVar 75 ⟨b, 0, none⟩).run Tryz.prog W = .ok (.agg #[x, y]) W := by
  simp [loadVar, isAgg, underlying, Tryz.underlying75, Result.andThen, loadCells, loadCellsFrom, Addr.add, h0, h1]
theorem asInfo : (Tryz.prog.info? 75).map (·.size) = some 2 := by kernel_rfl
theorem asSet (b tb : Nat) (x y u v : Value) (t : TypeId) (W : World) (hx : x.oneCell' = true) (hy : y.oneCell' = true) (h0 : W.cell? ⟨b, 0, none⟩ = some x) (h1 : W.cell? ⟨b, 1, none⟩ = some y) (ht : W.heap[tb]? = some (.cells #[u, v] t (0, 0))) :
    (ReflectliteValue.set #[.agg #[.pointer (some ⟨12, 75, none⟩), .pointer (some ⟨tb, 0, none⟩), .int .u64 409], .agg #[.pointer (some ⟨12, 75, none⟩), .pointer (some ⟨b, 0, none⟩), .int .u64 153]]).run Tryz.prog W
      = .ok (.tuple #[]) (W.setRow tb #[x, y]) := by
  have hst := run_storeVar_row (P := Tryz.prog) W tb t 75 #[u, v] #[x, y] ht asInfo rfl (by simp [hx, hy])
  have hl := asLoad b x y W h0 h1
  rw [rls]
  simp only [Sem.run_bind, asPartsA, asPartsS, Result.andThen]
  simp [ReflectliteValue.flagAddr, hl, Result.andThen, asDirect, hst]

set_option maxHeartbeats 4000000 in
theorem as_hit (k : Int) (te : TypeId) (pe : Value) (tb : Nat) (u v : Value) (t : TypeId) (w : World) (hg : w.cell? ⟨4, 0, none⟩ = some (.iface 117 (.agg #[.pointer (some ⟨12, 48, none⟩)]))) (ht : w.heap[tb]? = some (.cells #[u, v] t (0, 0))) :
    Calls Tryz.prog 47 #[.iface 75 (.agg #[.int .i64 k, .iface te pe]), .iface 77 (.pointer (some ⟨tb, 0, none⟩))] w fun ev w' => ev = .returned (.bool true) ∧ w' = ((((w.alloc (.cells #[.pointer (some ⟨tb, 0, none⟩)] 77)).alloc (.cells #[.pointer (some ⟨12, 77, none⟩), .pointer (some ⟨w.heap.size, 0, none⟩), .int .u64 150] 92)).alloc (.cells #[.pointer (some ⟨12, 77, none⟩), .pointer (some ⟨w.heap.size, 0, none⟩), .int .u64 150] 92)).alloc (.cells #[.int .i64 k, .iface te pe] 75)).setRow tb #[.int .i64 k, .iface te pe] := by
  have h6 := @run_callFunc_extern Tryz.prog 60 _ (fun args => ReflectliteValue.unpack (args.getD 0 (.tuple #[]))) Tryz.func60 (by kernel_rfl) (by kernel_rfl) (by kernel_rfl) (by kernel_rfl)
  have h7 := @run_callFunc_extern Tryz.prog 61 _ (ReflectliteValue.methodAny (ReflectliteValue.valueError "reflectlite.Value.Type" 0) (fun t _ _ _ => ReflectliteType.toType t)) Tryz.func61 (by kernel_rfl) (by kernel_rfl) (by kernel_rfl) (by kernel_rfl)
  have h8 := @run_callFunc_extern Tryz.prog 62 _ (ReflectliteValue.method (ReflectliteValue.valueError "reflectlite.Value.IsNil" 0) ReflectliteValue.isNil) Tryz.func62 (by kernel_rfl) (by kernel_rfl) (by kernel_rfl) (by kernel_rfl)
  have h27 := @run_callFunc_extern Tryz.prog 119 _ (ReflectliteType.abiMethod fun t => do pure (.int .u8 (← Rtype.kind t))) Tryz.func119 (by kernel_rfl) (by kernel_rfl) (by kernel_rfl) (by kernel_rfl)
  have h37 := @run_callFunc_extern Tryz.prog 133 _ (ReflectliteType.method ReflectliteType.elem) Tryz.func133 (by kernel_rfl) (by kernel_rfl) (by kernel_rfl) (by kernel_rfl)
  have h38 := @run_callFunc_extern Tryz.prog 134 _ (ReflectliteType.relation "Implements" ReflectliteType.implements_) Tryz.func134 (by kernel_rfl) (by kernel_rfl) (by kernel_rfl) (by kernel_rfl)
  have h10 := @run_callFunc_extern Tryz.prog 74 _ ReflectliteType.typeOf Tryz.func74 (by kernel_rfl) (by kernel_rfl) (by kernel_rfl) (by kernel_rfl)
  have h35 := @run_callFunc_extern Tryz.prog 131 _ (ReflectliteType.relation "AssignableTo" ReflectliteType.assignableTo) Tryz.func131 (by kernel_rfl) (by kernel_rfl) (by kernel_rfl) (by kernel_rfl)
  have h11 := @run_callFunc_extern Tryz.prog 75 _ (ReflectliteValue.method (ReflectliteValue.valueError "reflectlite.Value.Elem" 0) ReflectliteValue.elem) Tryz.func75 (by kernel_rfl) (by kernel_rfl) (by kernel_rfl) (by kernel_rfl)
  have h12 := @run_callFunc_extern Tryz.prog 76 _ ReflectliteValue.set Tryz.func76 (by kernel_rfl) (by kernel_rfl) (by kernel_rfl) (by kernel_rfl)
  have tO := asTypeOfS
  have mA := asMethodAssignableTo
  have a25 := asAssignable
  have v25 := asValueS
  have f6 := asValueP
  have f7 := asTypeP
  have mK := asMethodKind
  have mE := asMethodElem
  have mI := asMethodImplements
  have k27 := asKindP
  have k25 := asKindS
  have e27 := asElemP
  have i25 := asImplements
  have n8 := asIsNil ⟨w.heap.size, 0, none⟩ ⟨tb, 0, none⟩ ((w.alloc (.cells #[.pointer (some ⟨tb, 0, none⟩)] 77)).alloc (.cells #[.pointer (some ⟨12, 77, none⟩), .pointer (some ⟨w.heap.size, 0, none⟩), .int .u64 150] 92)) (by simp)
  have hlt : 4 < w.heap.size := by
    rcases Nat.lt_or_ge 4 w.heap.size with h | h
    · exact h
    · simp [World.cell?, Array.getElem?_eq_none h] at hg
  have hg2 : ((w.alloc (.cells #[.pointer (some ⟨tb, 0, none⟩)] 77)).alloc (.cells #[.pointer (some ⟨12, 77, none⟩), .pointer (some ⟨w.heap.size, 0, none⟩), .int .u64 150] 92)).cell? ⟨4, 0, none⟩ = some (.iface 117 (.agg #[.pointer (some ⟨12, 48, none⟩)])) := by
    rw [World.cell?_alloc_lt _ _ ⟨4, 0, none⟩ (by simp; omega), World.cell?_alloc_lt _ _ ⟨4, 0, none⟩ hlt]; exact hg
  have htl : tb < w.heap.size := (Array.getElem?_eq_some_iff.1 ht).1
  have el := asElemV ⟨w.heap.size, 0, none⟩ ⟨tb, 0, none⟩ (((w.alloc (.cells #[.pointer (some ⟨tb, 0, none⟩)] 77)).alloc (.cells #[.pointer (some ⟨12, 77, none⟩), .pointer (some ⟨w.heap.size, 0, none⟩), .int .u64 150] 92)).alloc (.cells #[.pointer (some ⟨12, 77, none⟩), .pointer (some ⟨w.heap.size, 0, none⟩), .int .u64 150] 92)) (by rw [World.cell?_alloc_lt _ _ ⟨w.heap.size, 0, none⟩ (by simp; omega)]; simp)
  have st := asSet (w.heap.size + 1 + 1 + 1) tb (.int .i64 k) (.iface te pe) u v t ((((w.alloc (.cells #[.pointer (some ⟨tb, 0, none⟩)] 77)).alloc (.cells #[.pointer (some ⟨12, 77, none⟩), .pointer (some ⟨w.heap.size, 0, none⟩), .int .u64 150] 92)).alloc (.cells #[.pointer (some ⟨12, 77, none⟩), .pointer (some ⟨w.heap.size, 0, none⟩), .int .u64 150] 92)).alloc (.cells #[.int .i64 k, .iface te pe] 75)) rfl rfl
    (by rw [World.cell?_alloc_at _ _ _ _ (by simp)]; rfl) (by rw [World.cell?_alloc_at _ _ _ _ (by simp)]; rfl)
    (by
      have h4 := Below.heap_alloc (((w.alloc (.cells #[.pointer (some ⟨tb, 0, none⟩)] 77)).alloc (.cells #[.pointer (some ⟨12, 77, none⟩), .pointer (some ⟨w.heap.size, 0, none⟩), .int .u64 150] 92)).alloc (.cells #[.pointer (some ⟨12, 77, none⟩), .pointer (some ⟨w.heap.size, 0, none⟩), .int .u64 150] 92)) (.cells #[.int .i64 k, .iface te pe] 75) tb (by simp; omega)
      rw [h4, Below.heap_alloc _ _ _ (by simp; omega), Below.heap_alloc _ _ _ (by simp; omega), Below.heap_alloc _ _ _ htl]
      exact ht)
  go_enter Tryz.func47, Tryz.ntmps47
  go_wp2
  refine wp_loop_rounds 1 ?_
  rw [rounds_succ]
  go_wp2
  go_ret
  exact ⟨rfl, rfl⟩
/-- .. what of its world is told on. -/
theorem as_hit2 (k : Int) (te : TypeId) (pe : Value) (tb : Nat) (u v : Value) (t : TypeId) (w : World) (hg : w.cell? ⟨4, 0, none⟩ = some (.iface 117 (.agg #[.pointer (some ⟨12, 48, none⟩)]))) (ht : Blk w tb #[u, v] t) :
    Calls Tryz.prog 47 #[.iface 75 (.agg #[.int .i64 k, .iface te pe]), .iface 77 (.pointer (some ⟨tb, 0, none⟩))] w fun ev w' => ev = .returned (.bool true) ∧ Blk w' tb #[.int .i64 k, .iface te pe] t ∧ Below tb w w' := by
  have hlt := ht.lt
  refine (as_hit k te pe tb u v t w hg ht).mono ?_
  rintro e w' ⟨rfl, rfl⟩
  refine ⟨rfl, ?_, ?_⟩
  · exact setRow_heap _ tb #[u, v] _ t (0, 0) ((((ht.alloc _).alloc _).alloc _).alloc _)
  · exact below_setRow (((((Below.refl _ w).alloc (by omega) _).alloc (by simp; omega) _).alloc (by simp; omega) _).alloc (by simp; omega) _) (Nat.le_refl _) _
end K
end Go.Proofs.YtopgbggighaknaaGreatDoor
/- kinds: what the package variables hold; what is wrong, and its number (made by gen_k.py out of layer 4's twin). -/
namespace Go.Proofs.YtopgbggighaknaaGreatDoor
namespace K
open Go.RowKit Go
structure G (w : World) : Prop where
  g : _root_.Go.Proofs.YtopgbggighaknaaGreatDoor.G w
  sz : 8 ≤ w.heap.size
  k0 : ∃ te pe, w.cell? ⟨2, 0, none⟩ = some (.iface te pe)
  k1 : ∃ te pe, w.cell? ⟨6, 0, none⟩ = some (.iface te pe)
  k2 : ∃ te pe, w.cell? ⟨1, 0, none⟩ = some (.iface te pe)
  k3 : ∃ te pe, w.cell? ⟨0, 0, none⟩ = some (.iface te pe)
  k4 : ∃ te pe, w.cell? ⟨3, 0, none⟩ = some (.iface te pe)
theorem G.ty {w : World} (h : G w) : w.cell? ⟨4, 0, none⟩ = some (.iface 117 (.agg #[.pointer (some ⟨12, 48, none⟩)])) := h.g.ty
theorem G.ext {w w' : World} (h : G w) (k : Ext w w') : G w' := by
  have hs := h.sz
  have e : ∀ b o, b < 8 → w'.cell? ⟨b, o, none⟩ = w.cell? ⟨b, o, none⟩ := fun b o hb => k.cell (p := ⟨b, o, none⟩) (by show b < w.heap.size; omega)
  have sz := k.size
  refine ⟨h.g.ext k, by omega, ?_, ?_, ?_, ?_, ?_⟩
  · obtain ⟨t, p, h⟩ := h.k0; exact ⟨t, p, by rw [e _ _ (by decide)]; exact h⟩
  · obtain ⟨t, p, h⟩ := h.k1; exact ⟨t, p, by rw [e _ _ (by decide)]; exact h⟩
  · obtain ⟨t, p, h⟩ := h.k2; exact ⟨t, p, by rw [e _ _ (by decide)]; exact h⟩
  · obtain ⟨t, p, h⟩ := h.k3; exact ⟨t, p, by rw [e _ _ (by decide)]; exact h⟩
  · obtain ⟨t, p, h⟩ := h.k4; exact ⟨t, p, by rw [e _ _ (by decide)]; exact h⟩
/-- What is wrong, with its number. -/
def errW (k : Int) (te : TypeId) (pe : Value) : Value := .iface 75 (.agg #[.int .i64 k, .iface te pe])
/-- Nothing, or what is wrong. -/
def unlessV (b : Bool) (v : Value) : Value := if b then .nilIface else v
/-- An error's value, and its number. -/
def Code (v : Value) (k : Int) : Prop := (v = .nilIface ∧ k = 0) ∨ (k ≠ 0 ∧ ∃ te pe, v = errW k te pe)
def codeI (b : Bool) (k : Int) : Int := if b then 0 else k
theorem code_unless (b : Bool) (k : Int) (hk : k ≠ 0) (te : TypeId) (pe : Value) : Code (unlessV b (errW k te pe)) (codeI b k) := by
  cases b
  · exact .inr ⟨hk, te, pe, rfl⟩
  · exact .inl ⟨rfl, rfl⟩
theorem ri {a b : Int} (h : a = b) : Ending.returned (.int .i64 a) = .returned (.int .i64 b) := by rw [h]
def firstI : List Int → Int
  | [] => 0
  | x :: r => if x = 0 then firstI r else x
section
theorem unless_is (b : Bool) (k : Int) (te : TypeId) (pe : Value) (w : World) :
    Calls Tryz.prog 48 #[.bool b, .agg #[.int .i64 k, .iface te pe]] w fun e w' => e = .returned (unlessV b (errW k te pe)) ∧ Ext w w' := by
  cases b
  · go_enter Tryz.func48, Tryz.ntmps48
    go_wp2
    go_ret
    exact ⟨rfl, ext1 _ _⟩
  · go_enter Tryz.func48, Tryz.ntmps48
    go_wp2
    go_ret
    exact ⟨rfl, ext1 _ _⟩
set_option maxHeartbeats 4000000 in
theorem noDesc_is (A B : Option Addr) (n m c c' : Nat) (s t : Int) (l r : List Int) (hn : n ≤ 1000000) (hm : m ≤ 1000000) (w : World) (hG : G w) (h : Il w A n l) (h' : Il w B m r) :
    Calls Tryz.prog 30 #[.agg #[.int .i64 s, .slice A n c, .int .i64 t, .slice B m c']] w fun e w' => (∃ v, e = .returned v ∧ Code v (codeI (rightB ⟨s, l, t, r⟩) 40)) ∧ Ext w w' := by
  obtain ⟨te, pe, hc⟩ := hG.k0
  have hsz := hG.sz
  have hc1 : (w.alloc (.cells #[.int .i64 s, .slice A n c, .int .i64 t, .slice B m c'] 25)).cell? ⟨2, 0, none⟩ = some (.iface te pe) := ((ext1 w _).cell (p := ⟨2, 0, none⟩) (by show 2 < w.heap.size; omega)).trans hc
  have E1 := ext1 w (.cells #[.int .i64 s, .slice A n c, .int .i64 t, .slice B m c'] 25)
  have RR := Lib.hid (fun W (hW : Ext (w.alloc (.cells #[.int .i64 s, .slice A n c, .int .i64 t, .slice B m c'] 25)) W) => dright_is A B n m c c' s t l r hn hm W (h.ext (Ext.trans E1 hW)) (h'.ext (Ext.trans E1 hW)))
  have HE := Lib.hid E1
  have HC := Lib.hid (code_unless (rightB ⟨s, l, t, r⟩) 40 (by decide) te pe)
  clear h h' E1 hG hc
  generalize rightB ⟨s, l, t, r⟩ = b at *
  have hx := fun (o : From (w.alloc (.cells #[.int .i64 s, .slice A n c, .int .i64 t, .slice B m c'] 25))) p h => From.cell o p h
  go_enter Tryz.func30, Tryz.ntmps30
  go_wp2
  refine wp_region_on (by kernel_rfl) (by kernel_rfl) ?_
  repeat (go_big_quiet_step ((first | (go_at_call 49; exact on_call RR.out _) | (go_at_call 48; exact on_call (fun W _ => unless_is _ _ _ _ W) _))))
  refine wpQuiet_nil ?_
  intro W hW
  go_wp2
  go_ret
  exact ⟨⟨_, rfl, HC.out⟩, Ext.trans HE.out hW⟩
set_option maxHeartbeats 4000000 in
theorem told_any (ks : List Int) (b : Nat) (cap : Nat) (w : World) (hG : G w) (hm : ks.length ≤ 100) (hb : b < w.heap.size)
    (hc : ∀ i, i < ks.length → ∃ v, w.cell? ⟨b, i, none⟩ = some v ∧ Code v (ks.getD i 0)) :
    Calls Tryz.prog 28 #[.slice (some ⟨b, 0, none⟩) ks.length cap] w fun e w' => e = .returned (.int .i64 (firstI ks)) ∧ Ext w w' := by
  have H := Lib.hid (And.intro hG (And.intro hb hc))
  clear hG hc
  go_enter Tryz.func28, Tryz.ntmps28
  go_wp2
  go_loopg [4, 5, 8] ks.length (fun m u v i wr => ∃ k : Nat, k + m = ks.length ∧ i = .int .i64 k ∧ firstI ks = firstI (ks.drop k) ∧ Ext w wr)
  case atStart => exact ⟨0, by omega, rfl, rfl, Ext.refl _⟩
  case round =>
    obtain ⟨k, hk, rfl, hf, hE⟩ := hrel
    by_cases hlt : k < ks.length
    · have hd : ks.drop k = ks.getD k 0 :: ks.drop (k + 1) := by
        rw [List.drop_eq_getElem_cons hlt]; simp [List.getD, hlt]
      obtain ⟨v0, c0, hv⟩ := H.out.2.2 k hlt
      have c : wr.cell? ⟨b, k, none⟩ = some v0 := (extAt hE b k H.out.2.1).trans c0
      have gE := (H.out.1.ext hE)
      rw [hd] at hf
      generalize ks.getD k 0 = q at *
      have h5 : (k : Int) < ks.length := by omega
      clear hd c0
      rcases hv with ⟨rfl, rfl⟩ | ⟨hq, te, pe, rfl⟩
      · have HF := Lib.hid (show firstI ks = firstI (ks.drop (k + 1)) from hf)
        have HE := Lib.hid hE
        clear hf hE gE
        go_wp2_with (go_at_call 47; ((with_reducible refine (as_nil _ _).mono ?_); rintro e w1 ⟨rfl, rfl⟩))
        go_roundg (gk - 1)
        case measure => omega
        case rel => exact ⟨k + 1, by omega, by go_num, HF.out, Ext.trans HE.out (ext1 _ _)⟩
      · have HF := Lib.hid (show firstI ks = q by rw [hf]; simp [firstI, hq])
        have gt := (gE.ext (ext1 wr (.cells #[.int .i64 0, .nilIface] 75))).ty
        have C := Lib.hid (as_hit2 q te pe wr.heap.size _ _ _ _ gt (Blk.new wr #[.int .i64 0, .nilIface] 75))
        have HE := Lib.hid hE
        clear hf hE gE gt hq
        unfold errW at *
        go_wp2_with (go_at_call 47; ((with_reducible refine C.out.mono ?_); rintro e w1 ⟨rfl, h1, h2⟩; have p0 := h1.cell 0; have H2 := Lib.hid h2; clear h2))
        go_ret
        exact ⟨ri HF.out.symm, Ext.trans HE.out (Below.trans (ext1 _ _) H2.out)⟩
    · have hd : ks.drop k = [] := List.drop_eq_nil_of_le (by omega)
      have hz : firstI ks = 0 := by rw [hf, hd]; rfl
      have hZ := Lib.hid hz
      have HE := Lib.hid hE
      have h5 : ¬ (k : Int) < ks.length := by omega
      clear hz hd hf hE
      go_wp2
      go_ret
      exact ⟨ri hZ.out.symm, HE.out⟩
end
theorem code_nil {v : Value} {k : Int} (h : Code v k) (h0 : k = 0) : v = .nilIface := by
  rcases h with ⟨rfl, _⟩ | ⟨h, _⟩
  · rfl
  · exact absurd h0 h
theorem code_err {v : Value} {k : Int} (h : Code v k) (h0 : k ≠ 0) : ∃ te pe, v = .iface 75 (.agg #[.int .i64 k, .iface te pe]) := by
  rcases h with ⟨_, h⟩ | ⟨_, te, pe, rfl⟩
  · exact absurd h h0
  · exact ⟨te, pe, rfl⟩
theorem told1_is (k : Int) (v : Value) (b : Nat) (t : TypeId) (w : World) (hG : G w) (hB : Blk w b #[v] t) (hv : Code v k) :
    Calls Tryz.prog 28 #[.slice (some ⟨b, 0, none⟩) 1 1] w fun e w' => e = .returned (.int .i64 k) ∧ Ext w w' := by
  have h := told_any [k] b 1 w hG (by simp) hB.lt (fun i hi => by
    obtain rfl : i = 0 := by simp at hi; exact hi
    exact ⟨v, by rw [hB.cell]; rfl, hv⟩)
  have e : firstI [k] = k := by simp [firstI]; intro h; exact h.symm
  rwa [e] at h
theorem told_new (k : Int) (v : Value) (o : Obj) (w : World) (hG : G w) (hv : Code v k) :
    Calls Tryz.prog 28 #[.slice (some ⟨w.heap.size + 1, 0, none⟩) 1 1] ((w.alloc o).alloc (.cells #[v] 48)) fun e w' => e = .returned (.int .i64 k) ∧ Ext ((w.alloc o).alloc (.cells #[v] 48)) w' :=
  told1_is k v _ 48 _ (hG.ext (ext2 _ _ _)) (at_new2 (Ext.refl _)) hv
def first2 (j k : Int) : Int := if j = 0 then k else j
theorem told2_is (j k : Int) (u v : Value) (b : Nat) (t : TypeId) (w : World) (hG : G w) (hB : Blk w b #[u, v] t) (hu : Code u j) (hv : Code v k) :
    Calls Tryz.prog 28 #[.slice (some ⟨b, 0, none⟩) 2 2] w fun e w' => e = .returned (.int .i64 (first2 j k)) ∧ Ext w w' := by
  have h := told_any [j, k] b 2 w hG (by simp) hB.lt (fun i hi => by
    have hi' : i = 0 ∨ i = 1 := by simp at hi; omega
    rcases hi' with rfl | rfl
    · exact ⟨u, by rw [hB.cell]; rfl, hu⟩
    · exact ⟨v, by rw [hB.cell]; rfl, hv⟩)
  have e : firstI [j, k] = first2 j k := by
    simp only [firstI, first2]
    split
    · split
      · rename_i h; exact h.symm
      · rfl
    · rfl
  rwa [e] at h
theorem code_0 : Code .nilIface 0 := .inl ⟨rfl, rfl⟩
end K
end Go.Proofs.YtopgbggighaknaaGreatDoor
/- kinds: Find. -/
namespace Go.Proofs.YtopgbggighaknaaGreatDoor
open Go.RowKit Go
section
set_option maxHeartbeats 4000000 in
set_option maxRecDepth 100000 in
theorem kfind_is (A : Option Addr) (n c : Nat) (xs : List DRow) (L : List DescR) (hn : n ≤ 1000000) (hs : Small xs) (A1 B1 : Option Addr) (n1 m1 c1 z1 : Nat) (s1 t1 : Int) (l1 r1 : List Int) (w : World) (h : Dl w A n xs L) (h1 : Il w A1 n1 l1) (h1' : Il w B1 m1 r1) :
    Calls Tryz.prog 15 #[.slice A n c, .agg #[.int .i64 s1, .slice A1 n1 c1, .int .i64 t1, .slice B1 m1 z1]] w fun e w' => e = .returned (.tuple #[.int .i64 ((findK L ⟨s1, l1, t1, r1⟩ : Nat) : Int), .bool (decide ((⟨s1, l1, t1, r1⟩ : DescR) ∈ L))]) ∧ Ext w w' := by
  have HE := Lib.hid (ext1 w (.cells #[.int .i64 s1, .slice A1 n1 c1, .int .i64 t1, .slice B1 m1 z1] 25))
  have HB := Lib.hid (Blk.new w #[.int .i64 s1, .slice A1 n1 c1, .int .i64 t1, .slice B1 m1 z1] 25)
  have H := Lib.hid (And.intro h (And.intro hs (And.intro h1 h1')))
  clear h hs h1 h1'
  go_enter Tryz.func15, Tryz.ntmps15
  go_wp2
  go_loopg [6, 7, 10] n (fun m u v i wr => ∃ k : Nat, k + m = n ∧ i = .int .i64 k ∧ findK (L.take k) ⟨s1, l1, t1, r1⟩ = 0 ∧ Ext (w.alloc (.cells #[.int .i64 s1, .slice A1 n1 c1, .int .i64 t1, .slice B1 m1 z1] 25)) wr)
  case atStart => exact ⟨0, by omega, rfl, rfl, Ext.refl _⟩
  case round =>
    obtain ⟨k, hk, rfl, hf, hE⟩ := hrel
    by_cases hlt : k < n
    · obtain ⟨ad, x, d, rfl, hb, hx, hd, hdn, e0, e1, e2, e3⟩ := (H.out.1.ext (Ext.trans HE.out hE)).at_ hlt
      have hsm := H.out.2.1 k x hx
      have BX := Lib.hid (ext1 wr (.cells #[.int .i64 x.s, .slice x.A x.n x.c, .int .i64 x.t, .slice x.B x.m x.e] 25))
      have RS := Lib.hid (fun W (hW : Ext wr W) => dsame_is x.A x.B x.n x.m x.c x.e x.s x.t d.ptrs d.eptrs (by omega) (by omega) A1 B1 n1 m1 c1 z1 s1 t1 l1 r1 W (hdn.p.ext hW) (hdn.q.ext hW) (H.out.2.2.1.ext (Ext.trans HE.out (Ext.trans hE hW))) (H.out.2.2.2.ext (Ext.trans HE.out (Ext.trans hE hW))))
      rw [hdn.eq] at RS
      have h5 : (k : Int) < n := by omega
      have h6 : (k : Int) + 1 ≤ 1000000 := by omega
      have b0 := fun o => ((HB.out.ext hE).alloc o).cell 0
      have b1 := fun o => ((HB.out.ext hE).alloc o).cell 1
      have b2 := fun o => ((HB.out.ext hE).alloc o).cell 2
      have b3 := fun o => ((HB.out.ext hE).alloc o).cell 3
      simp only [List.getElem?_toArray, List.getElem?_cons_zero, List.getElem?_cons_succ] at b0 b1 b2 b3
      have hll : k < L.length := by rw [H.out.1.2.1]; exact hlt
      have HK := Lib.hid (And.intro hk (And.intro hE (And.intro hf (And.intro hd hll))))
      clear hk hE hf hd hll hsm hdn hx hb
      by_cases hdD : d = ⟨s1, l1, t1, r1⟩
      · have HN := Lib.hid (show Value.tuple #[.int .i64 ((k : Int) + 1), .bool true] = .tuple #[.int .i64 ((findK L ⟨s1, l1, t1, r1⟩ : Nat) : Int), .bool (decide ((⟨s1, l1, t1, r1⟩ : DescR) ∈ L))] by
          have hd := HK.out.2.2.2.1
          rw [hdD] at hd
          rw [findK_take _ L k HK.out.2.2.2.2 HK.out.2.2.1 hd, decide_eq_true (List.mem_of_getElem? hd)]; rfl)
        rw [decide_eq_true hdD] at RS
        clear hdD
        go_wp2_with (go_at_call 27; refine (RS.out _ BX.out).mono ?_; rintro e w2 ⟨rfl, k2⟩)
        go_ret2
        exact ⟨ret_val HN.out, Ext.trans HE.out (Ext.trans HK.out.2.1 (Ext.trans BX.out k2))⟩
      · have HN := Lib.hid (findK_next ⟨s1, l1, t1, r1⟩ L k HK.out.2.2.2.2 HK.out.2.2.1 (by rw [HK.out.2.2.2.1]; intro e; exact hdD (Option.some.inj e)))
        rw [decide_eq_false hdD] at RS
        clear hdD
        go_wp2_with (go_at_call 27; refine (RS.out _ BX.out).mono ?_; rintro e w2 ⟨rfl, k2⟩)
        go_roundg (gk - 1)
        case measure => have := HK.out.1; omega
        case rel => exact ⟨k + 1, by have := HK.out.1; omega, by go_num, HN.out, Ext.trans HK.out.2.1 (Ext.trans BX.out k2)⟩
    · obtain rfl : k = n := by omega
      have h5 : ¬ (k : Int) < k := by omega
      have HN := Lib.hid (show Value.tuple #[.int .i64 0, .bool false] = .tuple #[.int .i64 ((findK L ⟨s1, l1, t1, r1⟩ : Nat) : Int), .bool (decide ((⟨s1, l1, t1, r1⟩ : DescR) ∈ L))] by
        rw [List.take_of_length_le (by rw [H.out.1.2.1]; exact Nat.le_refl _)] at hf
        rw [hf, decide_eq_false ((findK_zero _ _).1 hf)]; rfl)
      have HX := Lib.hid hE
      clear hE hf hk
      go_wp2
      go_ret2
      exact ⟨ret_val HN.out, Ext.trans HE.out HX.out⟩
end
end Go.Proofs.YtopgbggighaknaaGreatDoor
/- kinds: noKinds, Right. -/
namespace Go.Proofs.YtopgbggighaknaaGreatDoor
open Go.RowKit Go
theorem K.code_errW (k : Int) (hk : k ≠ 0) (te : TypeId) (pe : Value) : K.Code (K.errW k te pe) k := .inr ⟨hk, te, pe, rfl⟩
theorem K.G.glob {w : World} (h : K.G w) {b : Nat} (hb : b < 8) {v : Value} {W : World} (hv : w.cell? ⟨b, 0, none⟩ = some v) (k : Ext w W) : W.cell? ⟨b, 0, none⟩ = some v :=
  (k.cell (p := ⟨b, 0, none⟩) (by have := h.sz; show b < w.heap.size; omega)).trans hv
section
set_option maxHeartbeats 4000000 in
set_option maxRecDepth 100000 in
theorem noKinds_is (A : Option Addr) (n c : Nat) (xs : List DRow) (L : List DescR) (hn : n ≤ 1000000) (hc : n ≤ c) (hs : Small xs) (w : World) (hG : K.G w) (h : Dl w A n xs L) :
    Calls Tryz.prog 29 #[.slice A n c] w fun e w' => (∃ v, e = .returned v ∧ K.Code v (K.codeI (rightK L) 50)) ∧ Ext w w' := by
  have hll := h.2.1
  obtain ⟨te0, pe0, g0⟩ := hG.k3
  obtain ⟨te1, pe1, g1⟩ := hG.k2
  by_cases h60 : 60 < n
  · have hr : rightK L = false := by
      cases hr : rightK L with
      | false => rfl
      | true => have := ((rightK_iff L).1 hr).2.2; omega
    rw [hr]
    have h5 : (60 : Int) < n := by omega
    clear h hs hr
    go_enter Tryz.func29, Tryz.ntmps29
    go_wp2
    go_ret
    exact ⟨⟨_, rfl, K.code_errW 50 (by decide) _ _⟩, Ext.refl _⟩
  · have h5 : ¬ (60 : Int) < n := by omega
    have H := Lib.hid (And.intro h hs)
    have HG := Lib.hid (And.intro hG (And.intro g0 g1))
    clear h hs g0 g1 hG
    go_enter Tryz.func29, Tryz.ntmps29
    go_wp2
    go_loopg [3, 4, 5, 6, 7, 16] n (fun m v3 v4 v5 v6 v7 i wr => ∃ k : Nat, k + m = n ∧ i = .int .i64 k ∧ freshK [] (L.take k) = true ∧ Ext w wr)
    case atStart => exact ⟨0, by omega, rfl, rfl, Ext.refl _⟩
    case round =>
      obtain ⟨k, hk, rfl, hf, hE⟩ := hrel
      by_cases hlt : k < n
      · obtain ⟨ad, x, d, rfl, hb, hx, hd, hdn, e0, e1, e2, e3⟩ := (H.out.1.ext hE).at_ hlt
        have hsm := H.out.2 k x hx
        have EX := ext1 wr (.cells #[.int .i64 x.s, .slice x.A x.n x.c, .int .i64 x.t, .slice x.B x.m x.e] 25)
        have BX := Blk.new wr #[.int .i64 x.s, .slice x.A x.n x.c, .int .i64 x.t, .slice x.B x.m x.e] 25
        have RD := Lib.hid (fun W (hW : Ext wr W) => K.noDesc_is x.A x.B x.n x.m x.c x.e x.s x.t d.ptrs d.eptrs (by omega) (by omega) W (HG.out.1.ext (Ext.trans hE hW)) (hdn.p.ext hW) (hdn.q.ext hW))
        have RF := Lib.hid (fun W (hW : Ext wr W) => kfind_is (some ad) k k (xs.take k) (L.take k) (by omega) (H.out.2.take k) x.A x.B x.n x.m x.c x.e x.s x.t d.ptrs d.eptrs W ((H.out.1.take k (by omega)).ext (Ext.trans hE hW)) (hdn.p.ext hW) (hdn.q.ext hW))
        rw [hdn.eq] at RD RF
        have h6 : (k : Int) < n := by omega
        have h7 : (k : Int) + 1 ≤ 1000000 := by omega
        have h8 : (k : Int) ≤ c := by omega
        have h9 : k ≤ c := by omega
        have hst := fresh_step L k d hd
        have hbad := fresh_bad L k d hd
        rw [hf, Bool.true_and] at hst
        have HX := Lib.hid (And.intro EX BX)
        have HK := Lib.hid (And.intro hk hE)
        clear hk hE hf hd hsm hdn hx hb EX BX
        generalize findK (L.take k) d = f at *
        generalize decide (d ∈ L.take k) = tw at *
        generalize rightB d = rt at *
        cases rt with
        | false =>
          have HN := Lib.hid (hbad (by simp))
          clear hst hbad
          go_wp2_with (go_at_call 30; refine (RD.out _ HX.out.1).mono ?_; rintro e w2 ⟨⟨v, rfl, hv⟩, k2⟩; obtain ⟨te, pe, rfl⟩ := K.code_err hv (by decide); clear hv)
          go_ret
          exact ⟨⟨_, rfl, by rw [HN.out]; exact K.code_errW 50 (by decide) _ _⟩, Ext.trans HK.out.2 (Ext.trans HX.out.1 k2)⟩
        | true =>
          go_wp2_with (go_at_call 30; refine (RD.out _ HX.out.1).mono ?_; rintro e w2 ⟨⟨v, rfl, hv⟩, k2⟩; obtain rfl := K.code_nil hv rfl; clear hv)
          have kW := Ext.trans HX.out.1 k2
          have a0 := on_cell ((HX.out.2.ext k2).cell 0)
          have a1 := on_cell ((HX.out.2.ext k2).cell 1)
          have a2 := on_cell ((HX.out.2.ext k2).cell 2)
          have a3 := on_cell ((HX.out.2.ext k2).cell 3)
          have gT := HG.out.1.glob (by decide) HG.out.2.2 (Ext.trans HK.out.2 kW)
          cases tw with
          | true =>
            have HN := Lib.hid (hbad rfl)
            clear hst hbad
            refine wp_region_on (by kernel_rfl) (by kernel_rfl) ?_
            repeat (go_big_quiet_step (first | (go_at_call 15; with_reducible exact on_call (fun W hW => RF.out W (Ext.trans kW hW)) _)))
            refine wpQuiet_nil ?_
            intro W hW
            have gW := HG.out.1.glob (by decide) HG.out.2.2 (Ext.trans HK.out.2 (Ext.trans kW hW))
            go_wp2
            go_ret
            exact ⟨⟨_, rfl, by rw [HN.out]; exact K.code_errW 50 (by decide) _ _⟩, Ext.trans HK.out.2 (Ext.trans kW hW)⟩
          | false =>
            have HN := Lib.hid (show freshK [] (L.take (k + 1)) = true from hst)
            clear hst hbad
            refine wp_region_on (by kernel_rfl) (by kernel_rfl) ?_
            repeat (go_big_quiet_step (first | (go_at_call 15; with_reducible exact on_call (fun W hW => RF.out W (Ext.trans kW hW)) _)))
            refine wpQuiet_nil ?_
            intro W hW
            go_wp2
            go_roundg (gk - 1)
            case measure => have := HK.out.1; omega
            case rel => exact ⟨k + 1, by have := HK.out.1; omega, by go_num, HN.out, Ext.trans HK.out.2 (Ext.trans kW hW)⟩
      · obtain rfl : k = n := by omega
        have h6 : ¬ (k : Int) < k := by omega
        have HN := Lib.hid (show rightK L = true by
          rw [List.take_of_length_le (by rw [hll]; exact Nat.le_refl _)] at hf
          rw [rightK, hf, decide_eq_true (by omega)]; rfl)
        have HX := Lib.hid hE
        clear hE hf hk
        go_wp2
        go_ret
        exact ⟨⟨_, rfl, by rw [HN.out]; exact K.code_0⟩, HX.out⟩
end
end Go.Proofs.YtopgbggighaknaaGreatDoor
