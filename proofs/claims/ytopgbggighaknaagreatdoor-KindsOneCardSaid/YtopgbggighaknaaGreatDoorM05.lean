/- Joined texts, in their order: As, Text, Cell, SlotsP, Ints, RisP, Vals. -/
import Derived.Test.YtopgbggighaknaaGreatDoorChecked
import Derived.WalkKit
import Derived.WalkSpells
import Derived.WalkLawsBesides
import Derived.LaidEql
import Derived.Stop.Asserts
import Derived.RowKitTokens
import Derived.Laws.CopyOwn
import Derived.Test.YtopgbggighaknaaGreatDoorM01
import Derived.Test.YtopgbggighaknaaGreatDoorM02
import Derived.Lib.Hide
import Derived.BigQuiet
import Derived.Deep.QuietTactic
import Derived.Deep.LoopGhost
import Derived.Test.YtopgbggighaknaaGreatDoorM03
import Derived.Laws.OwnMore
/- errors.As at a target of a struct's type (desc.wrong), as contracts over this translation. -/
namespace Go.Proofs.YtopgbggighaknaaGreatDoor
open Go.RowKit Go.Extern.Stop Go.Stop Go.Extern
theorem as_nil (t : Value) (w : World) :
    Calls Tryz.prog 47 #[.nilIface, t] w fun e w' => e = .returned (.bool false) ∧ w' = w := by
  go_enter Tryz.func47, Tryz.ntmps47
  go_wp2
  go_ret
  exact ⟨rfl, rfl⟩
theorem asValueP (t : Addr) (w : World) : (ReflectliteValue.unpack (.iface 104 (.pointer (some t)))).run Tryz.prog w
    = .ok (.agg #[.pointer (some ⟨12, 104, none⟩), .pointer (some ⟨w.heap.size, 0, none⟩), .int .u64 150]) (w.alloc (.cells #[.pointer (some t)] 104)) := by kernel_rfl
theorem asTypeP (a : Addr) (w : World) : (ReflectliteValue.methodAny (ReflectliteValue.valueError "reflectlite.Value.Type" 0) (fun t _ _ _ => ReflectliteType.toType t) #[.agg #[.pointer (some ⟨12, 104, none⟩), .pointer (some a), .int .u64 150]]).run Tryz.prog w
    = .ok (.iface 117 (.agg #[.pointer (some ⟨12, 104, none⟩)])) w := by kernel_rfl
theorem asMethodKind (h : Value) (w : World) : (Go.method 289 117 (.agg #[h]) "Kind").run Tryz.prog w = .ok (119, h) w := by kernel_rfl
theorem asKindP (w : World) : ((ReflectliteType.abiMethod fun t => (fun a : Nat => Value.int IntKind.u8 (a : Int)) <$> Rtype.kind t) #[.pointer (some ⟨12, 104, none⟩)]).run Tryz.prog w = .ok (.int .u8 22) w := by kernel_rfl
theorem asKindS (w : World) : ((ReflectliteType.abiMethod fun t => (fun a : Nat => Value.int IntKind.u8 (a : Int)) <$> Rtype.kind t) #[.pointer (some ⟨12, 103, none⟩)]).run Tryz.prog w = .ok (.int .u8 25) w := by kernel_rfl
theorem rlm (z : Sem Value) (f : TypeId → Addr → Nat → Nat → Sem Value) (v : Value) :
    ReflectliteValue.method z f #[v] = (do match ← ReflectliteValue.parts v with | none => z | some (t, a, fl) => f t a fl (fl % 32)) := rfl
theorem asPartsP (a : Addr) (w : World) : (ReflectliteValue.parts (.agg #[.pointer (some ⟨12, 104, none⟩), .pointer (some a), .int .u64 150])).run Tryz.prog w = .ok (some (104, a, 150)) w := by kernel_rfl
theorem asIsNil (a p : Addr) (W : World) (ha : W.cell? a = some (.pointer (some p))) :
    (ReflectliteValue.method (ReflectliteValue.valueError "reflectlite.Value.IsNil" 0) ReflectliteValue.isNil #[.agg #[.pointer (some ⟨12, 104, none⟩), .pointer (some a), .int .u64 150]]).run Tryz.prog W = .ok (.bool false) W := by
  rw [rlm]
  simp only [Sem.run_bind, asPartsP, Result.andThen]
  simp [ReflectliteValue.isNil, loadVar, isAgg, underlying, Tryz.underlying104, ha, Result.andThen]
theorem asMethodElem (h : Value) (w : World) : (Go.method 289 117 (.agg #[h]) "Elem").run Tryz.prog w = .ok (133, .agg #[h]) w := by kernel_rfl
theorem asMethodImplements (h : Value) (w : World) : (Go.method 289 117 (.agg #[h]) "Implements").run Tryz.prog w = .ok (134, .agg #[h]) w := by kernel_rfl
theorem asMethodAssignableTo (h : Value) (w : World) : (Go.method 289 117 (.agg #[h]) "AssignableTo").run Tryz.prog w = .ok (131, .agg #[h]) w := by kernel_rfl
theorem asElemP (w : World) : (ReflectliteType.method ReflectliteType.elem #[.agg #[.pointer (some ⟨12, 104, none⟩)]]).run Tryz.prog w = .ok (.iface 117 (.agg #[.pointer (some ⟨12, 103, none⟩)])) w := by kernel_rfl
theorem asImplements (w : World) : (ReflectliteType.relation "Implements" ReflectliteType.implements_ #[.agg #[.pointer (some ⟨12, 103, none⟩)], .iface 117 (.agg #[.pointer (some ⟨12, 48, none⟩)])]).run Tryz.prog w = .ok (.bool true) w := by kernel_rfl
theorem asTypeOfS (v : Value) (w : World) : (ReflectliteType.typeOf #[.iface 103 v]).run Tryz.prog w = .ok (.iface 117 (.agg #[.pointer (some ⟨12, 103, none⟩)])) w := by kernel_rfl
theorem asAssignable (w : World) : (ReflectliteType.relation "AssignableTo" ReflectliteType.assignableTo #[.agg #[.pointer (some ⟨12, 103, none⟩)], .iface 117 (.agg #[.pointer (some ⟨12, 103, none⟩)])]).run Tryz.prog w = .ok (.bool true) w := by kernel_rfl
theorem asValueS (x y : Value) (w : World) : (ReflectliteValue.unpack (.iface 103 (.agg #[x, y]))).run Tryz.prog w
    = .ok (.agg #[.pointer (some ⟨12, 103, none⟩), .pointer (some ⟨w.heap.size, 0, none⟩), .int .u64 153]) (w.alloc (.cells #[x, y] 103)) := by kernel_rfl
theorem asElemOf (w : World) : (Rtype.elem? 104).run Tryz.prog w = .ok (some 103) w := by kernel_rfl
theorem asMk (p : Addr) (w : World) : (ReflectliteValue.mk 103 p ReflectliteValue.flagAddr).run Tryz.prog w = .ok (.agg #[.pointer (some ⟨12, 103, none⟩), .pointer (some p), .int .u64 409]) w := by kernel_rfl
theorem asElemV (a p : Addr) (W : World) (ha : W.cell? a = some (.pointer (some p))) :
    (ReflectliteValue.method (ReflectliteValue.valueError "reflectlite.Value.Elem" 0) ReflectliteValue.elem #[.agg #[.pointer (some ⟨12, 104, none⟩), .pointer (some a), .int .u64 150]]).run Tryz.prog W
      = .ok (.agg #[.pointer (some ⟨12, 103, none⟩), .pointer (some p), .int .u64 409]) W := by
  rw [rlm]
  simp only [Sem.run_bind, asPartsP, Result.andThen]
  simp [ReflectliteValue.elem, loadVar, isAgg, underlying, Tryz.underlying104, ha, Result.andThen, asElemOf, asMk]
theorem rls (v x : Value) : ReflectliteValue.set #[v, x] = (do
    let (some (dst, a, fl), some (src, b, _)) := (← ReflectliteValue.parts v, ← ReflectliteValue.parts x)
      | unsupported (.noEntry "extern/(internal/reflectlite.Value).Set.zeroValue")
    if fl / ReflectliteValue.flagAddr % 2 == 0 then unsupported (.noEntry "extern/(internal/reflectlite.Value).Set.unaddressable")
    let val ← loadVar src b
    if ← Rtype.directlyAssignable dst src then storeVar dst a val
    else if ← Rtype.implements dst src then
      if (← Rtype.kind src) == 20 then
        match val with
        | .nilIface => unsupported (.noEntry "extern/reflectlite: a nil value of one interface type handed on as a value of another")
        | _ => storeVar dst a val
      else storeVar dst a (.iface src val)
    else panicString ("reflectlite.Set: value of type " ++ (← Rtype.spelt src) ++ " is not assignable to type " ++ (← Rtype.spelt dst))
    pure (.tuple #[])) := rfl
theorem asPartsA (a : Addr) (w : World) : (ReflectliteValue.parts (.agg #[.pointer (some ⟨12, 103, none⟩), .pointer (some a), .int .u64 409])).run Tryz.prog w = .ok (some (103, a, 409)) w := by kernel_rfl
theorem asPartsS (a : Addr) (w : World) : (ReflectliteValue.parts (.agg #[.pointer (some ⟨12, 103, none⟩), .pointer (some a), .int .u64 153])).run Tryz.prog w = .ok (some (103, a, 153)) w := by kernel_rfl
theorem asDirect (w : World) : (Rtype.directlyAssignable 103 103).run Tryz.prog w = .ok true w := by kernel_rfl
theorem asLoad (b : Nat) (x y : Value) (W : World) (h0 : W.cell? ⟨b, 0, none⟩ = some x) (h1 : W.cell? ⟨b, 1, none⟩ = some y) : (loadVar 103 ⟨b, 0, none⟩).run Tryz.prog W = .ok (.agg #[x, y]) W := by
  simp [loadVar, isAgg, underlying, Tryz.underlying103, Result.andThen, loadCells, loadCellsFrom, Addr.add, h0, h1]
theorem asInfo : (Tryz.prog.info? 103).map (·.size) = some 2 := by kernel_rfl
theorem asSet (b tb : Nat) (x y u v : Value) (t : TypeId) (W : World) (hx : x.oneCell' = true) (hy : y.oneCell' = true) (h0 : W.cell? ⟨b, 0, none⟩ = some x) (h1 : W.cell? ⟨b, 1, none⟩ = some y) (ht : W.heap[tb]? = some (.cells #[u, v] t (0, 0))) :
    (ReflectliteValue.set #[.agg #[.pointer (some ⟨12, 103, none⟩), .pointer (some ⟨tb, 0, none⟩), .int .u64 409], .agg #[.pointer (some ⟨12, 103, none⟩), .pointer (some ⟨b, 0, none⟩), .int .u64 153]]).run Tryz.prog W
      = .ok (.tuple #[]) (W.setRow tb #[x, y]) := by
  have hst := run_storeVar_row (P := Tryz.prog) W tb t 103 #[u, v] #[x, y] ht asInfo rfl (by simp [hx, hy])
  have hl := asLoad b x y W h0 h1
  rw [rls]
  simp only [Sem.run_bind, asPartsA, asPartsS, Result.andThen]
  simp [ReflectliteValue.flagAddr, hl, Result.andThen, asDirect, hst]

set_option maxHeartbeats 4000000 in
theorem as_hit (k : Int) (te : TypeId) (pe : Value) (tb : Nat) (u v : Value) (t : TypeId) (w : World) (hg : w.cell? ⟨4, 0, none⟩ = some (.iface 117 (.agg #[.pointer (some ⟨12, 48, none⟩)]))) (ht : w.heap[tb]? = some (.cells #[u, v] t (0, 0))) :
    Calls Tryz.prog 47 #[.iface 103 (.agg #[.int .i64 k, .iface te pe]), .iface 104 (.pointer (some ⟨tb, 0, none⟩))] w fun ev w' => ev = .returned (.bool true) ∧ w' = ((((w.alloc (.cells #[.pointer (some ⟨tb, 0, none⟩)] 104)).alloc (.cells #[.pointer (some ⟨12, 104, none⟩), .pointer (some ⟨w.heap.size, 0, none⟩), .int .u64 150] 92)).alloc (.cells #[.pointer (some ⟨12, 104, none⟩), .pointer (some ⟨w.heap.size, 0, none⟩), .int .u64 150] 92)).alloc (.cells #[.int .i64 k, .iface te pe] 103)).setRow tb #[.int .i64 k, .iface te pe] := by
  have h6 := @run_callFunc_extern Tryz.prog 60 _ (fun args => ReflectliteValue.unpack (args.getD 0 (.tuple #[]))) Tryz.func60 (by kernel_rfl) (by kernel_rfl) (by kernel_rfl) (by kernel_rfl)
  have h7 := @run_callFunc_extern Tryz.prog 61 _ (ReflectliteValue.methodAny (ReflectliteValue.valueError "reflectlite.Value.Type" 0) (fun t _ _ _ => ReflectliteType.toType t)) Tryz.func61 (by kernel_rfl) (by kernel_rfl) (by kernel_rfl) (by kernel_rfl)
  have h8 := @run_callFunc_extern Tryz.prog 62 _ (ReflectliteValue.method (ReflectliteValue.valueError "reflectlite.Value.IsNil" 0) ReflectliteValue.isNil) Tryz.func62 (by kernel_rfl) (by kernel_rfl) (by kernel_rfl) (by kernel_rfl)
  have h27 := @run_callFunc_extern Tryz.prog 119 _ (ReflectliteType.abiMethod fun t => do pure (.int .u8 (← Rtype.kind t))) Tryz.func119 (by kernel_rfl) (by kernel_rfl) (by kernel_rfl) (by kernel_rfl)
  have h37 := @run_callFunc_extern Tryz.prog 133 _ (ReflectliteType.method ReflectliteType.elem) Tryz.func133 (by kernel_rfl) (by kernel_rfl) (by kernel_rfl) (by kernel_rfl)
  have h38 := @run_callFunc_extern Tryz.prog 134 _ (ReflectliteType.relation "Implements" ReflectliteType.implements_) Tryz.func134 (by kernel_rfl) (by kernel_rfl) (by kernel_rfl) (by kernel_rfl)
  have h10 := @run_callFunc_extern Tryz.prog 74 _ ReflectliteType.typeOf Tryz.func74 (by kernel_rfl) (by kernel_rfl) (by kernel_rfl) (by kernel_rfl)
  have h35 := @run_callFunc_extern Tryz.prog 131 _ (ReflectliteType.relation "AssignableTo" ReflectliteType.assignableTo) Tryz.func131 (by kernel_rfl) (by kernel_rfl) (by kernel_rfl) (by kernel_rfl)
  have h11 := @run_callFunc_extern Tryz.prog 75 _ (ReflectliteValue.method (ReflectliteValue.valueError "reflectlite.Value.Elem" 0) ReflectliteValue.elem) Tryz.func75 (by kernel_rfl) (by kernel_rfl) (by kernel_rfl) (by kernel_rfl)
  have h12 := @run_callFunc_extern Tryz.prog 76 _ ReflectliteValue.set Tryz.func76 (by kernel_rfl) (by kernel_rfl) (by kernel_rfl) (by kernel_rfl)
  have tO := asTypeOfS
  have mA := asMethodAssignableTo
  have a25 := asAssignable
  have v25 := asValueS
  have f6 := asValueP
  have f7 := asTypeP
  have mK := asMethodKind
  have mE := asMethodElem
  have mI := asMethodImplements
  have k27 := asKindP
  have k25 := asKindS
  have e27 := asElemP
  have i25 := asImplements
  have n8 := asIsNil ⟨w.heap.size, 0, none⟩ ⟨tb, 0, none⟩ ((w.alloc (.cells #[.pointer (some ⟨tb, 0, none⟩)] 104)).alloc (.cells #[.pointer (some ⟨12, 104, none⟩), .pointer (some ⟨w.heap.size, 0, none⟩), .int .u64 150] 92)) (by simp)
  have hlt : 4 < w.heap.size := by
    rcases Nat.lt_or_ge 4 w.heap.size with h | h
    · exact h
    · simp [World.cell?, Array.getElem?_eq_none h] at hg
  have hg2 : ((w.alloc (.cells #[.pointer (some ⟨tb, 0, none⟩)] 104)).alloc (.cells #[.pointer (some ⟨12, 104, none⟩), .pointer (some ⟨w.heap.size, 0, none⟩), .int .u64 150] 92)).cell? ⟨4, 0, none⟩ = some (.iface 117 (.agg #[.pointer (some ⟨12, 48, none⟩)])) := by
    rw [World.cell?_alloc_lt _ _ ⟨4, 0, none⟩ (by simp; omega), World.cell?_alloc_lt _ _ ⟨4, 0, none⟩ hlt]; exact hg
  have htl : tb < w.heap.size := (Array.getElem?_eq_some_iff.1 ht).1
  have el := asElemV ⟨w.heap.size, 0, none⟩ ⟨tb, 0, none⟩ (((w.alloc (.cells #[.pointer (some ⟨tb, 0, none⟩)] 104)).alloc (.cells #[.pointer (some ⟨12, 104, none⟩), .pointer (some ⟨w.heap.size, 0, none⟩), .int .u64 150] 92)).alloc (.cells #[.pointer (some ⟨12, 104, none⟩), .pointer (some ⟨w.heap.size, 0, none⟩), .int .u64 150] 92)) (by rw [World.cell?_alloc_lt _ _ ⟨w.heap.size, 0, none⟩ (by simp; omega)]; simp)
  have st := asSet (w.heap.size + 1 + 1 + 1) tb (.int .i64 k) (.iface te pe) u v t ((((w.alloc (.cells #[.pointer (some ⟨tb, 0, none⟩)] 104)).alloc (.cells #[.pointer (some ⟨12, 104, none⟩), .pointer (some ⟨w.heap.size, 0, none⟩), .int .u64 150] 92)).alloc (.cells #[.pointer (some ⟨12, 104, none⟩), .pointer (some ⟨w.heap.size, 0, none⟩), .int .u64 150] 92)).alloc (.cells #[.int .i64 k, .iface te pe] 103)) rfl rfl
    (by rw [World.cell?_alloc_at _ _ _ _ (by simp)]; rfl) (by rw [World.cell?_alloc_at _ _ _ _ (by simp)]; rfl)
    (by
      have h4 := Below.heap_alloc (((w.alloc (.cells #[.pointer (some ⟨tb, 0, none⟩)] 104)).alloc (.cells #[.pointer (some ⟨12, 104, none⟩), .pointer (some ⟨w.heap.size, 0, none⟩), .int .u64 150] 92)).alloc (.cells #[.pointer (some ⟨12, 104, none⟩), .pointer (some ⟨w.heap.size, 0, none⟩), .int .u64 150] 92)) (.cells #[.int .i64 k, .iface te pe] 103) tb (by simp; omega)
      rw [h4, Below.heap_alloc _ _ _ (by simp; omega), Below.heap_alloc _ _ _ (by simp; omega), Below.heap_alloc _ _ _ htl]
      exact ht)
  go_enter Tryz.func47, Tryz.ntmps47
  go_wp2
  refine wp_loop_rounds 1 ?_
  rw [rounds_succ]
  go_wp2
  go_ret
  exact ⟨rfl, rfl⟩
/-- .. what of its world is told on. -/
theorem as_hit2 (k : Int) (te : TypeId) (pe : Value) (tb : Nat) (u v : Value) (t : TypeId) (w : World) (hg : w.cell? ⟨4, 0, none⟩ = some (.iface 117 (.agg #[.pointer (some ⟨12, 48, none⟩)]))) (ht : Blk w tb #[u, v] t) :
    Calls Tryz.prog 47 #[.iface 103 (.agg #[.int .i64 k, .iface te pe]), .iface 104 (.pointer (some ⟨tb, 0, none⟩))] w fun ev w' => ev = .returned (.bool true) ∧ Blk w' tb #[.int .i64 k, .iface te pe] t ∧ Below tb w w' := by
  have hlt := ht.lt
  refine (as_hit k te pe tb u v t w hg ht).mono ?_
  rintro e w' ⟨rfl, rfl⟩
  refine ⟨rfl, ?_, ?_⟩
  · exact setRow_heap _ tb #[u, v] _ t (0, 0) ((((ht.alloc _).alloc _).alloc _).alloc _)
  · exact below_setRow (((((Below.refl _ w).alloc (by omega) _).alloc (by simp; omega) _).alloc (by simp; omega) _).alloc (by simp; omega) _) (Nat.le_refl _) _
end Go.Proofs.YtopgbggighaknaaGreatDoor
/- Descriptors' texts: numbers in decimal digits, the text of a descriptor, and what is read off it: pure. -/
namespace Go.Proofs.YtopgbggighaknaaGreatDoor
open Go

/-- A descriptor. -/
structure DescR where
  size : Int
  ptrs : List Int
  elem : Int
  eptrs : List Int
deriving DecidableEq
/-- Are places multiples of 4, rising, less than a size? -/
def risF (size : Int) : Int → List Int → Bool
  | _, [] => true
  | last, x :: r => decide (0 ≤ x) && decide (x % 4 = 0) && decide (x < size) && decide (last < x) && risF size x r
def risB (l : List Int) (size : Int) : Bool := risF size (-1) l
def rightB (d : DescR) : Bool :=
  decide (0 ≤ d.size) && decide (d.size ≤ 1024) && decide (d.size % 4 = 0) && decide (0 ≤ d.elem) && decide (d.elem ≤ 256) && decide (d.elem % 4 = 0) && risB d.ptrs d.size && risB d.eptrs d.elem
theorem risF_le {size : Int} : ∀ {l : List Int} {last : Int}, risF size last l = true → ∀ x ∈ l, 0 ≤ x ∧ x < size
  | [], _, _, x, hx => by simp at hx
  | y :: r, last, h, x, hx => by
    simp only [risF, Bool.and_eq_true, decide_eq_true_eq] at h
    rcases List.mem_cons.1 hx with rfl | hx
    · exact ⟨h.1.1.1.1, h.1.1.2⟩
    · exact risF_le h.2 x hx

/-- A digit. -/
def dg (k : Nat) : UInt8 := UInt8.ofNat (48 + k)
/-- The digits of a number. -/
def numS (n : Nat) : List UInt8 := if _h : n < 10 then [dg n] else numS (n / 10) ++ [dg (n % 10)]
termination_by n
decreasing_by omega
def isDig (c : UInt8) : Bool := decide (48 ≤ c.toNat) && decide (c.toNat ≤ 57)
def partS (size : Nat) (l : List Nat) : List UInt8 := numS size ++ 58 :: l.flatMap fun x => 32 :: numS x
def textS (d : DescR) : List UInt8 := partS d.size.toNat (d.ptrs.map Int.toNat) ++ 59 :: 32 :: partS d.elem.toNat (d.eptrs.map Int.toNat)
/-- One byte more of a text whose numbers are read off. -/
def numStep (st : List Nat × Bool) (c : UInt8) : List Nat × Bool :=
  if isDig c then (if st.2 then (st.1.dropLast ++ [min (10 * st.1.getLastD 0 + (c.toNat - 48)) 10000], true) else (st.1 ++ [c.toNat - 48], true)) else (st.1, false)
def nums (s : List UInt8) : List Nat := (s.foldl numStep ([], false)).1

theorem dig_of (k : Nat) (h : k < 10) : isDig (dg k) = true ∧ (dg k).toNat - 48 = k := by
  have : (dg k).toNat = 48 + k := by unfold dg; rw [UInt8.toNat_ofNat']; omega
  unfold isDig
  rw [this]
  simp
  omega
theorem numS_fold (out : List Nat) : ∀ n, n ≤ 10000 → (numS n).foldl numStep (out, false) = (out ++ [n], true) := by
  intro n
  induction n using Nat.strongRecOn with
  | _ n ih =>
    intro hn
    unfold numS
    split
    · rename_i h
      obtain ⟨h1, h2⟩ := dig_of n h
      simp [numStep, h1, h2]
    · rename_i h
      obtain ⟨h1, h2⟩ := dig_of (n % 10) (by omega)
      rw [List.foldl_append, ih (n / 10) (by omega) (by omega)]
      simp only [List.foldl_cons, List.foldl_nil, numStep, h1, h2, if_true]
      rw [List.dropLast_concat, List.getLastD_concat]
      congr 3
      omega
theorem flat_fold : ∀ (l : List Nat) (out : List Nat) (b : Bool), (∀ x ∈ l, x ≤ 10000) → ∃ b', (l.flatMap fun x => 32 :: numS x).foldl numStep (out, b) = (out ++ l, b')
  | [], out, b, _ => ⟨b, by simp⟩
  | x :: r, out, b, h => by
    have h32 : numStep (out, b) 32 = (out, false) := by simp [numStep, isDig]
    simp only [List.flatMap_cons, List.foldl_append, List.foldl_cons, h32]
    rw [numS_fold out x (h x (by simp))]
    obtain ⟨b', e⟩ := flat_fold r (out ++ [x]) true (fun y hy => h y (by simp [hy]))
    exact ⟨b', by rw [e]; simp⟩
theorem part_fold (size : Nat) (l out : List Nat) (hs : size ≤ 10000) (h : ∀ x ∈ l, x ≤ 10000) : ∃ b', (partS size l).foldl numStep (out, false) = (out ++ size :: l, b') := by
  have h58 : numStep (out ++ [size], true) 58 = (out ++ [size], false) := by simp [numStep, isDig]
  unfold partS
  rw [List.foldl_append, numS_fold out size hs, List.foldl_cons, h58]
  obtain ⟨b', e⟩ := flat_fold l (out ++ [size]) false h
  exact ⟨b', by rw [e]; simp⟩
theorem numS_dig : ∀ n, ∀ c ∈ numS n, isDig c = true := by
  intro n
  induction n using Nat.strongRecOn with
  | _ n ih =>
    unfold numS
    split
    · rename_i h
      intro c hc
      simp at hc
      rw [hc]; exact (dig_of n h).1
    · rename_i h
      intro c hc
      rcases List.mem_append.1 hc with hc | hc
      · exact ih (n / 10) (by omega) c hc
      · simp at hc
        rw [hc]; exact (dig_of (n % 10) (by omega)).1
theorem part_no59 (size : Nat) (l : List Nat) : ∀ c ∈ partS size l, c ≠ 59 := by
  have hd : ∀ n, ∀ c ∈ numS n, c ≠ 59 := fun n c hc e => by have := numS_dig n c hc; rw [e] at this; simp [isDig] at this
  intro c hc
  unfold partS at hc
  rcases List.mem_append.1 hc with hc | hc
  · exact hd _ c hc
  · rcases List.mem_cons.1 hc with rfl | hc
    · decide
    · obtain ⟨x, _, hx⟩ := List.mem_flatMap.1 hc
      rcases List.mem_cons.1 hx with rfl | hx
      · decide
      · exact hd _ c hx
/-- The text ahead of the first ';', and the one from it on. -/
def cutAt : List UInt8 → Option (List UInt8 × List UInt8)
  | [] => none
  | c :: r => if c = 59 then some ([], c :: r) else (cutAt r).map fun p => (c :: p.1, p.2)
theorem cutAt_of : ∀ (s r : List UInt8), (∀ c ∈ s, c ≠ 59) → cutAt (s ++ 59 :: r) = some (s, 59 :: r)
  | [], r, _ => by simp [cutAt]
  | c :: s, r, h => by
    have h1 : ¬ c = 59 := h c (by simp)
    simp [cutAt, h1, cutAt_of s r (fun c' hc => h c' (by simp [hc]))]
/-- What a text is read as: roughly, and held against its own text. -/
def parseP (s : List UInt8) : Option DescR :=
  match cutAt s with
  | none => none
  | some (u, v) =>
    match nums u, nums v with
    | x :: xs, y :: ys =>
      let d : DescR := ⟨x, xs.map Int.ofNat, y, ys.map Int.ofNat⟩
      if rightB d && textS d == s then some d else none
    | _, _ => none
theorem map_back {l : List Int} (h : ∀ x ∈ l, 0 ≤ x) : (l.map Int.toNat).map Int.ofNat = l := by
  rw [List.map_map]
  conv => rhs; rw [← List.map_id l]
  exact List.map_congr_left fun x hx => by have := h x hx; show ((x.toNat : Nat) : Int) = x; omega
theorem parse_text (d : DescR) (h : rightB d = true) : parseP (textS d) = some d := by
  have hr := h
  simp only [rightB, Bool.and_eq_true, decide_eq_true_eq] at hr
  obtain ⟨⟨⟨⟨⟨⟨⟨h1, h2⟩, h3⟩, h4⟩, h5⟩, h6⟩, h7⟩, h8⟩ := hr
  have g1 := risF_le h7
  have g2 := risF_le h8
  have c := cutAt_of (partS d.size.toNat (d.ptrs.map Int.toNat)) (32 :: partS d.elem.toNat (d.eptrs.map Int.toNat)) (part_no59 _ _)
  have e1 : nums (partS d.size.toNat (d.ptrs.map Int.toNat)) = d.size.toNat :: d.ptrs.map Int.toNat := by
    obtain ⟨b, e⟩ := part_fold d.size.toNat (d.ptrs.map Int.toNat) [] (by omega) (fun x hx => by obtain ⟨y, hy, rfl⟩ := List.mem_map.1 hx; have := g1 y hy; omega)
    unfold nums; rw [e]; rfl
  have e2 : nums (59 :: 32 :: partS d.elem.toNat (d.eptrs.map Int.toNat)) = d.elem.toNat :: d.eptrs.map Int.toNat := by
    obtain ⟨b, e⟩ := part_fold d.elem.toNat (d.eptrs.map Int.toNat) [] (by omega) (fun x hx => by obtain ⟨y, hy, rfl⟩ := List.mem_map.1 hx; have := g2 y hy; omega)
    have s1 : numStep ([], false) 59 = ([], false) := by simp [numStep, isDig]
    have s2 : numStep ([], false) 32 = ([], false) := by simp [numStep, isDig]
    unfold nums
    rw [List.foldl_cons, s1, List.foldl_cons, s2, e]; rfl
  have hd : (⟨((d.size.toNat : Nat) : Int), (d.ptrs.map Int.toNat).map Int.ofNat, ((d.elem.toNat : Nat) : Int), (d.eptrs.map Int.toNat).map Int.ofNat⟩ : DescR) = d := by
    rw [map_back (fun x hx => (g1 x hx).1), map_back (fun x hx => (g2 x hx).1), Int.toNat_of_nonneg h1, Int.toNat_of_nonneg h4]
  unfold parseP
  rw [show textS d = partS d.size.toNat (d.ptrs.map Int.toNat) ++ 59 :: 32 :: partS d.elem.toNat (d.eptrs.map Int.toNat) from rfl, c]
  simp only [e1, e2]
  rw [hd, h]
  simp [textS]
theorem parse_some {s : List UInt8} {d : DescR} (h : parseP s = some d) : rightB d = true ∧ textS d = s := by
  unfold parseP at h
  split at h
  · cases h
  · split at h
    · simp only at h
      split at h
      · rename_i hh
        cases h
        simpa using hh
      · cases h
    · cases h
/-- A text is read as a descriptor just if it is that one's, and that one is right. -/
theorem parse_iff (s : List UInt8) (d : DescR) : parseP s = some d ↔ rightB d = true ∧ textS d = s :=
  ⟨parse_some, fun ⟨h1, h2⟩ => h2 ▸ parse_text d h1⟩
theorem parse_none (s : List UInt8) : parseP s = none ↔ ∀ d, rightB d = true → textS d ≠ s := by
  constructor
  · intro h d h1 h2
    rw [← h2, parse_text d h1] at h
    cases h
  · intro h
    cases hp : parseP s with
    | none => rfl
    | some d => exact absurd (parse_some hp).2 (h d (parse_some hp).1)
/-- The text of a descriptor, if it is right. -/
def textV (d : DescR) : List UInt8 := if rightB d then textS d else []
def textE (d : DescR) : Int := if rightB d then 0 else 40
end Go.Proofs.YtopgbggighaknaaGreatDoor
/- A cell of an older world. -/
namespace Go.Proofs.YtopgbggighaknaaGreatDoor
open Go.RowKit Go
theorem on_cell {W : World} {p : Addr} {v : Value} (h : W.cell? p = some v) (o : From W) : o.w.cell? p = some v := (From.cell o p (by rw [h]; rfl)).trans h
end Go.Proofs.YtopgbggighaknaaGreatDoor
/- What objects of a descriptor are: bytes, what is at a place, the places of all pointers: pure. -/
namespace Go.Proofs.YtopgbggighaknaaGreatDoor
open Go

def bytesB (d : DescR) (n : Int) : Int := (8 + d.size + n * d.elem + 7) / 8 * 8
/-- May there be an object of this length? -/
def lenB (d : DescR) (n : Int) : Bool := decide (0 ≤ n) && (decide (n ≤ 0) || !decide (d.elem = 0)) && decide (n ≤ 131072) && decide (bytesB d n ≤ 131072)
def bytesE (d : DescR) (n : Int) : Int := if rightB d then (if lenB d n then 0 else 41) else 40
def bytesV (d : DescR) (n : Int) : Int := if rightB d && lenB d n then bytesB d n else 0
/-- What is at a place of an object that may be. -/
def kindP (d : DescR) (n x : Int) : Int :=
  if x < 0 ∨ x % 4 ≠ 0 ∨ d.size + n * d.elem ≤ x then 0
  else if (x < d.size ∧ x ∈ d.ptrs) ∨ (d.size ≤ x ∧ (x - d.size) % d.elem ∈ d.eptrs) then 2 else 1
/-- The places of all pointers. -/
def slotsF (d : DescR) (n : Nat) : List Int := d.ptrs ++ (List.range n).flatMap fun (i : Nat) => d.eptrs.map fun y => d.size + (i : Int) * d.elem + y
/-- .. one by one. -/
def slotsW (d : DescR) (n : Nat) (k : Nat) : List Int := ((List.range k).map fun (j : Nat) => 4 * (j : Int)).filter fun x => kindP d n x == 2

theorem sorted_ext : ∀ (l l' : List Int), l.Pairwise (· < ·) → l'.Pairwise (· < ·) → (∀ x, x ∈ l ↔ x ∈ l') → l = l'
  | [], [], _, _, _ => rfl
  | [], y :: r, _, _, h => by have := (h y).2 (by simp); simp at this
  | x :: r, [], _, _, h => by have := (h x).1 (by simp); simp at this
  | x :: r, y :: s, h1, h2, h => by
    obtain ⟨a1, a2⟩ := List.pairwise_cons.1 h1
    obtain ⟨b1, b2⟩ := List.pairwise_cons.1 h2
    have hxy : x = y := by
      rcases List.mem_cons.1 ((h x).1 (by simp)) with e | hx
      · exact e
      · rcases List.mem_cons.1 ((h y).2 (by simp)) with e | hy
        · exact e.symm
        · have := b1 x hx; have := a1 y hy; omega
    subst hxy
    rw [sorted_ext r s a2 b2 (fun z => ⟨fun hz => by
      rcases List.mem_cons.1 ((h z).1 (by simp [hz])) with e | e
      · have := a1 z hz; omega
      · exact e, fun hz => by
      rcases List.mem_cons.1 ((h z).2 (by simp [hz])) with e | e
      · have := b1 z hz; omega
      · exact e⟩)]
theorem risF_sorted {size : Int} : ∀ {l : List Int} {last : Int}, risF size last l = true → l.Pairwise (· < ·) ∧ (∀ x ∈ l, last < x ∧ x % 4 = 0)
  | [], _, _ => ⟨List.Pairwise.nil, fun x hx => by simp at hx⟩
  | y :: r, last, h => by
    simp only [risF, Bool.and_eq_true, decide_eq_true_eq] at h
    obtain ⟨h1, h2⟩ := risF_sorted h.2
    refine ⟨List.pairwise_cons.2 ⟨fun z hz => (h2 z hz).1, h1⟩, fun x hx => ?_⟩
    rcases List.mem_cons.1 hx with rfl | hx
    · exact ⟨h.1.2, h.1.1.1.2⟩
    · have := h2 x hx; exact ⟨by omega, this.2⟩
structure RightP (d : DescR) : Prop where
  s0 : 0 ≤ d.size
  s1 : d.size ≤ 1024
  s4 : d.size % 4 = 0
  e0 : 0 ≤ d.elem
  e1 : d.elem ≤ 256
  e4 : d.elem % 4 = 0
  p : d.ptrs.Pairwise (· < ·)
  pp : ∀ x ∈ d.ptrs, 0 ≤ x ∧ x < d.size ∧ x % 4 = 0
  q : d.eptrs.Pairwise (· < ·)
  qq : ∀ x ∈ d.eptrs, 0 ≤ x ∧ x < d.elem ∧ x % 4 = 0
theorem right_of {d : DescR} (h : rightB d = true) : RightP d := by
  simp only [rightB, Bool.and_eq_true, decide_eq_true_eq] at h
  obtain ⟨⟨⟨⟨⟨⟨⟨h1, h2⟩, h3⟩, h4⟩, h5⟩, h6⟩, h7⟩, h8⟩ := h
  exact ⟨h1, h2, h3, h4, h5, h6, (risF_sorted h7).1, fun x hx => ⟨(risF_le h7 x hx).1, (risF_le h7 x hx).2, ((risF_sorted h7).2 x hx).2⟩,
    (risF_sorted h8).1, fun x hx => ⟨(risF_le h8 x hx).1, (risF_le h8 x hx).2, ((risF_sorted h8).2 x hx).2⟩⟩
theorem mul_step {i n : Int} {e : Int} (h : i + 1 ≤ n) (he : 0 ≤ e) : i * e + e ≤ n * e := by
  have := Int.mul_le_mul_of_nonneg_right h he
  rw [Int.add_mul, Int.one_mul] at this
  exact this
theorem mem_slots {d : DescR} (h : RightP d) (n : Nat) (x : Int) : x ∈ slotsF d n ↔ kindP d n x = 2 := by
  unfold slotsF kindP
  rw [List.mem_append]
  constructor
  · rintro (hx | hx)
    · obtain ⟨h1, h2, h3⟩ := h.pp x hx
      have hm : 0 ≤ (n : Int) * d.elem := Int.mul_nonneg (by omega) h.e0
      rw [if_neg (by omega), if_pos (Or.inl ⟨h2, hx⟩)]
    · obtain ⟨i, hi, hx⟩ := List.mem_flatMap.1 hx
      obtain ⟨y, hy, rfl⟩ := List.mem_map.1 hx
      obtain ⟨h1, h2, h3⟩ := h.qq y hy
      have hi' : (i : Int) + 1 ≤ n := by have := List.mem_range.1 hi; omega
      have hm := mul_step hi' h.e0
      have hm0 : 0 ≤ (i : Int) * d.elem := Int.mul_nonneg (by omega) h.e0
      have h4 : ((i : Int) * d.elem) % 4 = 0 := by rw [Int.mul_emod, h.e4]; simp
      have hs := h.s4
      have hs0 := h.s0
      generalize hP : (i : Int) * d.elem = P at *
      have hc : ¬ (d.size + P + y < 0 ∨ (d.size + P + y) % 4 ≠ 0 ∨ d.size + (n : Int) * d.elem ≤ d.size + P + y) := by omega
      rw [if_neg hc, if_pos]
      refine Or.inr ⟨by omega, ?_⟩
      have e9 : d.size + P + y - d.size = y + (i : Int) * d.elem := by rw [hP]; omega
      rw [e9, Int.add_mul_emod_self_right, Int.emod_eq_of_lt h1 h2]
      exact hy
  · intro hk
    split at hk
    · cases hk
    · rename_i h0
      split at hk
      · rename_i h1
        rcases h1 with ⟨h1, h2⟩ | ⟨h1, h2⟩
        · exact .inl h2
        · right
          have hq := h.qq _ h2
          have hd := Int.emod_add_mul_ediv (x - d.size) d.elem
          have hdiv : 0 ≤ (x - d.size) / d.elem := Int.ediv_nonneg (by omega) h.e0
          have hlt : (x - d.size) / d.elem < n := by
            refine Int.ediv_lt_of_lt_mul (by omega) ?_
            omega
          refine List.mem_flatMap.2 ⟨((x - d.size) / d.elem).toNat, List.mem_range.2 (by omega), List.mem_map.2 ⟨(x - d.size) % d.elem, h2, ?_⟩⟩
          rw [Int.toNat_of_nonneg hdiv, Int.mul_comm]
          omega
      · cases hk
theorem sorted_slots {d : DescR} (h : RightP d) : ∀ n : Nat, (slotsF d n).Pairwise (· < ·) ∧ ∀ x ∈ slotsF d n, x < d.size + (n : Int) * d.elem
  | 0 => by
    simp only [slotsF, List.range_zero, List.flatMap_nil, List.append_nil]
    exact ⟨h.p, fun x hx => by have := (h.pp x hx).2.1; simp; omega⟩
  | n + 1 => by
    obtain ⟨h1, h2⟩ := sorted_slots h n
    have e : slotsF d (n + 1) = slotsF d n ++ d.eptrs.map fun y => d.size + (n : Int) * d.elem + y := by
      unfold slotsF
      rw [List.range_succ, List.flatMap_append, List.append_assoc]
      simp
    have hm : ((n + 1 : Nat) : Int) * d.elem = (n : Int) * d.elem + d.elem := by rw [Int.natCast_add, Int.add_mul]; simp
    rw [e]
    refine ⟨List.pairwise_append.2 ⟨h1, ?_, fun x hx y hy => ?_⟩, fun x hx => ?_⟩
    · exact List.pairwise_map.2 (h.q.imp fun hab => by omega)
    · obtain ⟨z, hz, rfl⟩ := List.mem_map.1 hy
      have := h2 x hx
      have := (h.qq z hz).1
      omega
    · rcases List.mem_append.1 hx with hx | hx
      · have := h2 x hx
        have := h.e0
        omega
      · obtain ⟨z, hz, rfl⟩ := List.mem_map.1 hx
        have := (h.qq z hz).2.1
        omega
/-- One by one they are those. -/
theorem slots_all {d : DescR} (h : RightP d) (n k : Nat) (hk : d.size + (n : Int) * d.elem ≤ 4 * (k : Int)) : slotsW d n k = slotsF d n := by
  refine sorted_ext _ _ ?_ (sorted_slots h n).1 fun x => ?_
  · unfold slotsW
    refine List.Pairwise.filter _ (List.pairwise_map.2 ?_)
    exact (List.pairwise_lt_range (n := k)).imp fun hab => by omega
  · unfold slotsW
    rw [List.mem_filter, List.mem_map, mem_slots h n x]
    constructor
    · rintro ⟨_, hx⟩
      simpa using hx
    · intro hx
      have hx' := hx
      unfold kindP at hx'
      split at hx'
      · cases hx'
      · rename_i h0
        exact ⟨⟨(x / 4).toNat, List.mem_range.2 (by omega), by omega⟩, by simpa using hx⟩
theorem slots_len (d : DescR) (n : Nat) : (slotsF d n).length = d.ptrs.length + n * d.eptrs.length := by
  induction n with
  | zero => simp [slotsF]
  | succ n ih =>
    have e : slotsF d (n + 1) = slotsF d n ++ d.eptrs.map fun y => d.size + (n : Int) * d.elem + y := by
      unfold slotsF
      rw [List.range_succ, List.flatMap_append, List.append_assoc]
      simp
    rw [e, List.length_append, ih, List.length_map, Nat.succ_mul, Nat.add_assoc]
end Go.Proofs.YtopgbggighaknaaGreatDoor
/- Slices of ints that read as lists; the reference's small calls over them. -/
namespace Go.Proofs.YtopgbggighaknaaGreatDoor
open Go.RowKit Go
/-- The slice (A, n) holds the numbers l. -/
def Il (W : World) (A : Option Addr) (n : Nat) (l : List Int) : Prop := l.length = n ∧ Rd W A n (fun j => .int .i64 (l.getD j 0))
theorem Il.ext {W W' : World} {A : Option Addr} {n : Nat} {l : List Int} (h : Il W A n l) (k : Ext W W') : Il W' A n l := ⟨h.1, h.2.ext k⟩
theorem Il.at_ {W : World} {A : Option Addr} {n : Nat} {l : List Int} (h : Il W A n l) {k : Nat} (hk : k < n) : ∃ ad, A = some ad ∧ ad.block < W.heap.size ∧ ∀ j, j < n → W.cell? (ad.add j) = some (.int .i64 (l.getD j 0)) := h.2 (by omega)
theorem ext_drewD (w : World) (n : Nat) : Ext w (w.drewN n) := by
  induction n with
  | zero => exact Ext.refl _
  | succ n ih => exact ih.drew
theorem ret_val {u v : Value} (h : u = v) : Ending.returned u = .returned v := by rw [h]
theorem rb {a b : Bool} (h : a = b) : Ending.returned (.bool a) = .returned (.bool b) := by rw [h]
section
set_option maxHeartbeats 2000000 in
theorem ints_is (A A' : Option Addr) (n n' c c' : Nat) (l l' : List Int) (hn : n ≤ 1000000) (w : World) (h : Il w A n l) (h' : Il w A' n' l') :
    Calls Tryz.prog 38 #[.slice A n c, .slice A' n' c'] w fun e w' => e = .returned (.bool (decide (l = l'))) ∧ Ext w w' := by
  by_cases hl : n = n'
  · subst hl
    have hlen := h.1.trans h'.1.symm
    have H := Lib.hid (And.intro h (And.intro h' hlen))
    clear h h' hlen
    go_enter Tryz.func38, Tryz.ntmps38
    go_wp2
    go_loopg [5] n (fun m i wr => ∃ k : Nat, k + m = n ∧ i = .int .i64 k ∧ l.take k = l'.take k ∧ Ext w wr)
    case atStart => exact ⟨0, by omega, rfl, rfl, Ext.refl _⟩
    case round =>
      obtain ⟨k, hk, rfl, ht, hE⟩ := hrel
      by_cases hlt : k < n
      · obtain ⟨ad, rfl, hb, hcell⟩ := (H.out.1.ext hE).at_ hlt
        obtain ⟨ad', rfl, hb', hcell'⟩ := (H.out.2.1.ext hE).at_ hlt
        have ck := hcell k hlt
        have ck' := hcell' k hlt
        have h5 : (k : Int) < n := by omega
        have h6 : (k : Int) + 1 ≤ 1000000 := by omega
        have e1 : l.take (k + 1) = l.take k ++ [l.getD k 0] := by rw [List.take_add_one, List.getD, List.getElem?_eq_getElem (by rw [H.out.1.1]; exact hlt)]; rfl
        have e2 : l'.take (k + 1) = l'.take k ++ [l'.getD k 0] := by rw [List.take_add_one, List.getD, List.getElem?_eq_getElem (by rw [H.out.2.1.1]; exact hlt)]; rfl
        have HE := Lib.hid (And.intro hE (And.intro hk (And.intro ht (And.intro e1 e2))))
        clear hE hcell hcell' hk ht e1 e2
        generalize hx : l.getD k 0 = x at *
        generalize hy : l'.getD k 0 = y at *
        by_cases hxy : x = y
        · subst hxy
          have hb1 : (x != x) = false := by simp
          clear hx hy
          go_wp2
          go_quiet (fail)
          go_wp2
          go_roundg (gk - 1)
          case measure => have := HE.out.2.1; omega
          case rel => exact ⟨k + 1, by have := HE.out.2.1; omega, by go_num, by rw [HE.out.2.2.2.1, HE.out.2.2.2.2, HE.out.2.2.1], Ext.trans HE.out.1 (ext_drewD _ _)⟩
        · have hb1 : (x != y) = true := by simpa using hxy
          have HN := Lib.hid (show decide (l = l') = false from decide_eq_false (fun e => hxy (by rw [← hx, ← hy, e])))
          clear hx hy hxy
          go_wp2
          go_quiet (fail)
          go_wp2
          go_ret
          exact ⟨rb (by rw [HN.out]), Ext.trans HE.out.1 (ext_drewD _ _)⟩
      · obtain rfl : k = n := by omega
        have h5 : ¬ (k : Int) < k := by omega
        have HN := Lib.hid (show decide (l = l') = true from decide_eq_true (by rw [← List.take_of_length_le (Nat.le_of_eq H.out.1.1), ← List.take_of_length_le (l := l') (Nat.le_of_eq H.out.2.1.1), ht]))
        have HE := Lib.hid hE
        clear hE ht hk
        go_wp2
        go_ret
        exact ⟨rb (by rw [HN.out]), HE.out⟩
  · have HN := Lib.hid (show decide (l = l') = false from decide_eq_false (fun e => hl (by rw [← h.1, ← h'.1, e])))
    have h5 : ((n : Int) != (n' : Int)) = true := by rw [bne_iff_ne]; omega
    clear h h'
    go_enter Tryz.func38, Tryz.ntmps38
    go_wp2
    go_ret
    exact ⟨rb (by rw [HN.out]), Ext.refl _⟩

end
end Go.Proofs.YtopgbggighaknaaGreatDoor
/- Rising, step by step: pure. -/
namespace Go.Proofs.YtopgbggighaknaaGreatDoor
open Go.RowKit Go
/-- the one ahead of the k-th -/
def prevL (l : List Int) : Nat → Int
  | 0 => -1
  | k + 1 => l.getD k 0
theorem ris_step (l : List Int) (size : Int) (k : Nat) (hk : k < l.length) :
    risF size (prevL l k) (l.drop k) = (decide (0 ≤ l.getD k 0) && decide (l.getD k 0 % 4 = 0) && decide (l.getD k 0 < size) && decide (prevL l k < l.getD k 0) && risF size (prevL l (k + 1)) (l.drop (k + 1))) := by
  have e : l.drop k = l.getD k 0 :: l.drop (k + 1) := by
    rw [List.drop_eq_getElem_cons hk, List.getD_eq_getElem?_getD, List.getElem?_eq_getElem hk]; rfl
  rw [e]
  rfl
theorem ris_end (l : List Int) (size : Int) (k : Nat) (hk : l.length ≤ k) : risF size (prevL l k) (l.drop k) = true := by
  rw [List.drop_eq_nil_of_le hk]; rfl
end Go.Proofs.YtopgbggighaknaaGreatDoor
/- What Kind and Slots answer; lists of ints that are appended to. -/
namespace Go.Proofs.YtopgbggighaknaaGreatDoor
open Go.RowKit Go
def kindV (d : DescR) (n x : Int) : Int := if rightB d && lenB d n then kindP d n x else 0
theorem lenB_le {d : DescR} {n : Int} (h : lenB d n = true) : 0 ≤ n ∧ n ≤ 131072 := by
  simp only [lenB, Bool.and_eq_true, decide_eq_true_eq] at h
  exact ⟨h.1.1.1, h.1.2⟩
def encZ (l : List Int) : List Value := l.map (Value.int .i64)
theorem infoZ : (Tryz.prog.info? 3).map (fun i => (i.zero, i.size, i.bytes)) = some (some (.int .i64 0), 1, 8) := by kernel_rfl
theorem il_of_own {w w' : World} {base : Nat} {L : List Int} {v : Value} (h : w.ownsRow base 3 1 v L.length (encZ L)) (he : Ext w w') : ∃ A c, v = .slice A L.length c ∧ Il w' A L.length L := by
  obtain ⟨A, c, rfl, hr⟩ := rd_of_own h
  refine ⟨A, c, rfl, rfl, fun hn => ?_⟩
  obtain ⟨ad, e, hb, hc⟩ := (hr.ext he) hn
  refine ⟨ad, e, hb, fun j hj => ?_⟩
  rw [hc j hj]
  simp [encZ, hj]
/-- What Slots lists. -/
def slotsV (d : DescR) (n : Int) : List Int := if rightB d && lenB d n then slotsF d n.toNat else []
def SlotsR (w : World) (d : DescR) (n : Int) (e : Ending) (w' : World) : Prop :=
  ∃ A c, e = .returned (.tuple #[.slice A (slotsV d n).length c, .int .i64 (bytesE d n)]) ∧ Il w' A (slotsV d n).length (slotsV d n) ∧ Ext w w'
end Go.Proofs.YtopgbggighaknaaGreatDoor
