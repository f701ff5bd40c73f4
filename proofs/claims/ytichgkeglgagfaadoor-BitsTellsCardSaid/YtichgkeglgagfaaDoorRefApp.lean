/- append(make([]uint32, 0, n), words...) -/
import Derived.Test.YtichgkeglgagfaaDoorDraw2
import Derived.Test.YtichgkeglgagfaaDoorApp
import Derived.Test.YtichgkeglgagfaaDoorMade
import Derived.Laws.OwnMore
namespace Go.Proofs.YtichgkeglgagfaaDoor
open Go.RowKit Go
def encL (ws : List Nat) : List Value := ws.map fun x => Value.int .u32 (x : Nat)
theorem encL_get (ws : List Nat) (j : Nat) (h : j < ws.length) : (encL ws)[j]? = some (.int .u32 (wd ws j : Nat)) := by simp [encL, wd, h]
theorem make_room (m : Nat) (hm : m ≤ 1000) (u : World) : (Instr.makeSlice 22 (.int .i64 0) (.int .i64 m)).run Tryd.prog u = .ok (.slice (some ⟨u.heap.size, 0, none⟩) 0 m) (u.alloc (.cells (encW (List.replicate m 0)) 47)) := by
  obtain ⟨i, hi, hz⟩ := Option.map_eq_some_iff.1 infoW
  simp only [Prod.mk.injEq] at hz
  obtain ⟨h1, h2, h3⟩ := hz
  have := run_make (P := Tryd.prog) u 22 47 i (.int .u32 0) Tryd.underlying22 hi h1 .i64 .i64 0 m (by omega) (by omega) (by rw [h3]; omega) (by omega)
  rw [this, h2, Int.toNat_natCast, Nat.mul_one, show (Value.int .u32 0).cells = #[Value.int .u32 0] from rfl, madeCells_one]
  simp [encW]
theorem append_words (A : Option Addr) (n c : Nat) (ws : List Nat) (w : World) (h : Bt w A n ws) (u : World) (hE : Ext w u) (base : Nat) (hbase : base ≤ u.heap.size) (v : Value) (hown : u.ownsRow base 47 1 v 0 []) :
    ∃ v' u', (Builtin.append_ #[22, 22] 22 #[v, .slice A n c]).run Tryd.prog u = .ok v' u' ∧ u'.ownsRow base 47 1 v' n (encL ws) ∧ u.grownBy u' v.ownBlock := by
  obtain ⟨i, hi, hz⟩ := Option.map_eq_some_iff.1 infoW
  simp only [Prod.mk.injEq] at hz
  obtain ⟨h1, h2, h3⟩ := hz
  have hl := h.len
  have hle := h.le
  rcases Nat.eq_zero_or_pos n with hn | hn
  · subst hn
    obtain rfl : ws = [] := List.eq_nil_of_length_eq_zero hl
    rcases A with _ | ad
    · refine ⟨v, u, ?_, hown, ⟨rfl, rfl, rfl, Nat.le_refl _, fun _ _ _ => rfl⟩⟩
      rcases hown.2 with ⟨rfl, _⟩ | ⟨g, cap, cur, rfl, _, _, hnc, _⟩
      · simp [Builtin.append_, run_underlying Tryd.underlying22, sizeOf, typeInfo, hi, Builtin.lenOf, Builtin.firstCells]
      · simp [Builtin.append_, run_underlying Tryd.underlying22, sizeOf, typeInfo, hi, Builtin.lenOf, Builtin.firstCells, storeCells]
    · obtain ⟨v', u', hr, ho, hg, _⟩ := run_append_own (P := Tryd.prog) u base 22 22 47 i (.int .u32 0) 1 4 Tryd.underlying22 hi h1 h2 h3 rfl (by decide) v 0 [] hown ad 0 c [] rfl (by simp) (by simp) (by unfold maxLen; omega) (by omega) hbase
      exact ⟨v', u', hr, ho, hg⟩
  · obtain ⟨ad, rfl, hb, hc⟩ := h.rd hn
    obtain ⟨v', u', hr, ho, hg, _⟩ := run_append_own (P := Tryd.prog) u base 22 22 47 i (.int .u32 0) 1 4 Tryd.underlying22 hi h1 h2 h3 rfl (by decide) v 0 [] hown ad n c (encL ws) (by simp [encL, hl]) (fun j x hj => by
      have hj' : j < n := by
        have := (List.getElem?_eq_some_iff.1 hj).1
        simpa [encL, hl] using this
      rw [hE.cell (p := ad.add j) (by rw [block_of_add]; exact hb), hc j hj', ← hj, encL_get ws j (by omega)]) (fun x hx => by
      obtain ⟨y, _, rfl⟩ := List.mem_map.1 hx
      rfl) (by unfold maxLen; omega) (by omega) hbase
    rw [Nat.zero_add, List.nil_append] at ho
    exact ⟨v', u', hr, ho, hg⟩
section
variable {P : Program}
theorem wp_append_run {o : Oper} {a : Act} {K : Act → World → Prop} {Q : Exit → Act → World → Prop} {w w' : World} (s x : Operand) (t : TypeId)
    (ho : o.op = .call { callee := .builtin .append, args := #[s, x], argTypes := #[t, t] }) {v x' v' : Value} (hs : a.eval s = v) (hx : a.eval x = x')
    (hr : (Builtin.append_ #[t, t] o.type #[v, x']).run P w = .ok v' w') (h : K (a.put o.dst v') w') : o.wp P a w K Q := by
  unfold Oper.wp execOp
  simp only [ho, resolve, invoke, builtin, Sem.run_bind, Sem.run_pure, Result.andThen_ok, List.map_toArray, List.map_cons, List.map_nil, hs, hx, hr]
  exact h
end
end Go.Proofs.YtichgkeglgagfaaDoor
