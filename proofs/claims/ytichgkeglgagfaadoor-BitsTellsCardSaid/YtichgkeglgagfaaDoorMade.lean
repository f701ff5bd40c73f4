/- bits: made, and its changes. -/
import Derived.Test.YtichgkeglgagfaaDoorWrong
import Derived.StillTailTactics
import Derived.Laws.MakeOwn
import Derived.Laws.CopyOwn
namespace Go.Proofs.YtichgkeglgagfaaDoor
open Go.RowKit Go
def encW (ws : List Nat) : Array Value := (ws.map fun x => Value.int .u32 (x : Nat)).toArray
theorem encW_get (ws : List Nat) (j : Nat) (h : j < ws.length) : (encW ws)[j]? = some (.int .u32 (wd ws j : Nat)) := by simp [encW, wd, h]
theorem encW_set (ws : List Nat) (j x : Nat) : (encW ws).setIfInBounds j (.int .u32 (x : Nat)) = encW (ws.set j x) := by simp [encW, List.map_set]
theorem infoW : (Tryd.prog.info? 47).map (fun i => (i.zero, i.size, i.bytes)) = some (some (.int .u32 0), 1, 4) := by kernel_rfl
theorem madeCells_one (z : Value) (m : Nat) : madeCells #[z] m = Array.replicate m z := by
  unfold madeCells
  apply Array.ext
  · simp
  · intro j _ _; simp [Nat.mod_one]
set_option maxRecDepth 100000 in
theorem make_words (m : Nat) (hm : m ≤ 1000) (u : World) : (Instr.makeSlice 22 (.int .i64 m) (.int .i64 m)).run Tryd.prog u = .ok (.slice (some ⟨u.heap.size, 0, none⟩) m m) (u.alloc (.cells (encW (List.replicate m 0)) 47)) := by
  obtain ⟨i, hi, hz⟩ := Option.map_eq_some_iff.1 infoW
  simp only [Prod.mk.injEq] at hz
  obtain ⟨h1, h2, h3⟩ := hz
  have := run_make (P := Tryd.prog) u 22 47 i (.int .u32 0) Tryd.underlying22 hi h1 .i64 .i64 m m (by omega) (Int.le_refl _) (by rw [h3]; omega) (by omega)
  rw [this, h2, Int.toNat_natCast, Nat.mul_one, show (Value.int .u32 0).cells = #[Value.int .u32 0] from rfl, madeCells_one]
  simp [encW]
theorem copy_words (A : Option Addr) (n c : Nat) (ws : List Nat) (w : World) (h : Bt w A n ws) (B : Nat) (cur : Array Value) (hc : cur.size = n) (hB : Blk w B cur 47) :
    ∃ w', (Builtin.copy_ #[22, 22] 3 #[.slice (some ⟨B, 0, none⟩) n n, .slice A n c]).run Tryd.prog w = .ok (goInt n) w' ∧ Below B w w' ∧ Blk w' B (encW ws) 47 := by
  have hs : (Tryd.prog.info? 47).map (·.size) = some 1 := by kernel_rfl
  by_cases hn : n = 0
  · subst hn
    refine ⟨w, run_copy_none w _ _ _ _ _ _ _ _ _ _ Tryd.underlying22 hs rfl, Below.refl _ _, ?_⟩
    have e1 : cur = #[] := Array.eq_empty_of_size_eq_zero hc
    have e2 : ws = [] := List.eq_nil_of_length_eq_zero h.len
    rw [e1] at hB
    rw [e2]; exact hB
  · obtain ⟨ad, rfl, hb, hcell⟩ := h.rd (by omega)
    have hl := h.len
    have hr := run_copy_row (P := Tryd.prog) w 22 22 3 47 B 0 n n ad n c cur 47 (encW ws).toList Tryd.underlying22 hs hB (by simp [encW, hl]) (fun j v hj => by
      have hjn : j < n := by
        have := (List.getElem?_eq_some_iff.1 hj).1
        simp [encW, hl] at this
        exact this
      rw [hcell j hjn, ← hj]
      have := encW_get ws j (by omega)
      simpa using this.symm) (by simp [encW, hl, hc]) (by
      intro v hv
      simp [encW] at hv
      obtain ⟨x, _, rfl⟩ := hv
      rfl)
    have e : cur.toList.take 0 ++ (encW ws).toList ++ cur.toList.drop (0 + (encW ws).toList.length) = (encW ws).toList := by
      rw [List.take_zero, List.nil_append, List.drop_of_length_le (by simp [encW, hl, hc]), List.append_nil]
    rw [e] at hr
    refine ⟨w.setRow B (encW ws), by rw [hr]; simp [encW, hl], below_setRow (Below.refl B w) (Nat.le_refl _) _, ?_⟩
    unfold World.setRow
    have e : w.heap[B]? = some (.cells cur 47 (0, 0)) := hB
    show (w.heap.modify B _)[B]? = _
    rw [Array.getElem?_modify, if_pos rfl, e]
    simp
def MadeR (w : World) (N : Int) (m : Nat) (ws : List Nat) (e : Ending) (w' : World) : Prop :=
  ∃ B, e = .returned (.agg #[.int .i64 N, .slice (some ⟨B, 0, none⟩) m m]) ∧ w.heap.size ≤ B ∧ Blk w' B (encW ws) 47 ∧ Ext w w'
def ChangeR (B : Nat) (w : World) (ws : List Nat) (e : Ending) (w' : World) : Prop :=
  (∃ v, e = .returned v) ∧ Below B w w' ∧ Blk w' B (encW ws) 47
theorem wd_set {l : List Nat} {k x : Nat} (h : k < l.length) (j : Nat) : wd (l.set k x) j = if j = k then x else wd l j := by
  unfold wd
  rw [List.getD_eq_getElem?_getD, List.getD_eq_getElem?_getD, List.getElem?_set]
  by_cases e : j = k
  · subst e; simp [h]
  · rw [if_neg (fun h => e h.symm), if_neg e]
section
set_option maxRecDepth 100000 in
theorem copied1_any (A : Option Addr) (n c : Nat) (ws : List Nat) (w : World) (h : Bt w A n ws) (B b : Nat) (cur : Array Value) (hc : cur.size = n) (hB : Blk w B cur 47)
    (c1 : w.cell? ⟨b, 1, none⟩ = some (.slice A n c)) :
    Calls Tryd.prog 59 #[.slice (some ⟨B, 0, none⟩) n n, .pointer (some ⟨b, 0, none⟩)] w (ChangeR B w ws) := by
  obtain ⟨w', hr, h1, h2⟩ := copy_words A n c ws w h B cur hc hB
  have H := Lib.hid (And.intro h1 h2)
  clear h1 h2 hB h
  go_enter Tryd.func59, Tryd.ntmps59
  go_wp2
  go_end0
  exact ⟨⟨_, rfl⟩, H.out⟩

set_option maxRecDepth 100000 in
set_option maxHeartbeats 1000000 in
theorem turned1_any (on : Bool) (f t : Int) (hf : 0 ≤ f ∧ f ≤ 100000) (ht : 0 ≤ t ∧ t ≤ 100000) (ws : List Nat) (n : Nat) (hn : ws.length = n) (hn2 : n ≤ 1000) (hw : W32 ws) (w : World) (B bon bf bt : Nat) (hB : Blk w B (encW ws) 47)
    (hbon : bon < B) (hbf : bf < B) (hbt : bt < B)
    (c1 : w.cell? ⟨bon, 0, none⟩ = some (.bool on)) (c2 : w.cell? ⟨bf, 0, none⟩ = some (.int .i64 f)) (c3 : w.cell? ⟨bt, 0, none⟩ = some (.int .i64 t)) :
    Calls Tryd.prog 60 #[.slice (some ⟨B, 0, none⟩) n n, .pointer (some ⟨bon, 0, none⟩), .pointer (some ⟨bf, 0, none⟩), .pointer (some ⟨bt, 0, none⟩)] w (ChangeR B w (turnW f t on ws)) := by
  obtain ⟨f0, f1⟩ := hf
  obtain ⟨t0, t1⟩ := ht
  have hz := hB.lt
  have H := Lib.hid (And.intro hw (And.intro hn hB))
  clear hB hw
  go_enter Tryd.func60, Tryd.ntmps60
  go_wp2
  go_loopg [8] n (fun m i wr => ∃ (k : Nat) (cur : List Nat), k + m = n ∧ i = .int .i64 k ∧ cur.length = n ∧ (∀ j, j < n → wd cur j = if j < k then wd (turnW f t on ws) j else wd ws j) ∧ Below B w wr ∧ Blk wr B (encW cur) 47)
  case atStart => exact ⟨0, ws, by omega, rfl, H.out.2.1, fun j _ => by rw [if_neg (by omega)], Below.refl _ _, H.out.2.2⟩
  case round =>
    obtain ⟨k, cur, hk, rfl, hcl, hcur, hE, hBr⟩ := hrel
    have hsz := hE.size
    by_cases hlt : k < n
    · have d1 : wr.cell? ⟨bon, 0, none⟩ = some (.bool on) := (hE.cell (p := ⟨bon, 0, none⟩) hbon).trans c1
      have d2 : wr.cell? ⟨bf, 0, none⟩ = some (.int .i64 f) := (hE.cell (p := ⟨bf, 0, none⟩) hbf).trans c2
      have d3 : wr.cell? ⟨bt, 0, none⟩ = some (.int .i64 t) := (hE.cell (p := ⟨bt, 0, none⟩) hbt).trans c3
      have ck : wr.cell? ⟨B, k, none⟩ = some (.int .u32 (wd ws k : Nat)) := by
        rw [hBr.cell, encW_get cur k (by omega), hcur k hlt, if_neg (by omega)]
      have fk := hBr.frozen k
      have Dg := Lib.hid (fun w => digits_any (k : Int) f t (by omega) (by omega) (by omega) w)
      have hx := wd_lt H.out.1 k
      have T0 := turn_wd f t on ws k (by omega)
      have h5 : (k : Int) < n := by omega
      have X0 := u32_andNot_nat (wd ws k) (dig k f t) hx (dig_lt _ _ _)
      have X1 := u32_or_nat (wd ws k) (dig k f t) hx (dig_lt _ _ _)
      change _ = ((ndiff _ _ : Nat) : Int) at X0
      generalize dig (k : Int) f t = d at *
      generalize wd ws k = y at *
      generalize ndiff y d = r at *
      generalize y ||| d = r' at *
      have HH := Lib.hid (And.intro hcl (And.intro hcur (And.intro hE (And.intro hBr T0))))
      clear hcl hcur hE hBr T0 hx c1 c2 c3
      cases on
      · go_wp2
        refine wp_region_tail 11 10 rfl (by kernel_rfl) (by kernel_rfl) (by kernel_rfl) ?_
        apply Exists.intro
        refine ⟨fun c => ?_, fun W hW => ?_⟩
        · have hx := fun (o : From c.w) p h => From.cell2 c.h o p h
          simp only [List.take_succ_cons, List.take_zero]
          repeat (go_big_quiet_step ((go_at_call 39; exact on_same Dg.out _)))
          exact wpQuiet_nil rfl
        · have fk' : W.frozen? ⟨B, k, none⟩ = false := by rw [hW.frozen (by show B < _; omega)]; exact fk
          have ck' : W.cell? ⟨B, k, none⟩ = some (.int .u32 (y : Nat)) := by rw [hW.cell (by show B < _; omega)]; exact ck
          simp only [List.drop_succ_cons, List.drop_zero]
          have HW := Lib.hid hW
          clear hW
          go_wp2
          go_roundg (gk - 1)
          case measure => omega
          case rel =>
            obtain ⟨hcl, hcur, hE, hBr, T0⟩ := HH.out
            refine ⟨k + 1, cur.set k r, by omega, by go_num, by rw [List.length_set]; exact hcl, fun j hj => ?_, (Below.trans hE (HW.out.mono (by omega))).setCell (p := ⟨B, k, none⟩) (Nat.le_refl _) _, by rw [← encW_set]; exact (hBr.ext HW.out).set k _⟩
            rw [wd_set (by omega), hcur j hj]
            by_cases hjk : j = k
            · subst hjk; rw [if_pos rfl, if_pos (by omega), T0]; rfl
            · rw [if_neg hjk]
              by_cases h1 : j < k
              · rw [if_pos h1, if_pos (by omega)]
              · rw [if_neg h1, if_neg (by omega)]
      · go_wp2
        refine wp_region_tail 11 10 rfl (by kernel_rfl) (by kernel_rfl) (by kernel_rfl) ?_
        apply Exists.intro
        refine ⟨fun c => ?_, fun W hW => ?_⟩
        · have hx := fun (o : From c.w) p h => From.cell2 c.h o p h
          simp only [List.take_succ_cons, List.take_zero]
          repeat (go_big_quiet_step ((go_at_call 39; exact on_same Dg.out _)))
          exact wpQuiet_nil rfl
        · have fk' : W.frozen? ⟨B, k, none⟩ = false := by rw [hW.frozen (by show B < _; omega)]; exact fk
          have ck' : W.cell? ⟨B, k, none⟩ = some (.int .u32 (y : Nat)) := by rw [hW.cell (by show B < _; omega)]; exact ck
          simp only [List.drop_succ_cons, List.drop_zero]
          have HW := Lib.hid hW
          clear hW
          go_wp2
          go_roundg (gk - 1)
          case measure => omega
          case rel =>
            obtain ⟨hcl, hcur, hE, hBr, T0⟩ := HH.out
            refine ⟨k + 1, cur.set k r', by omega, by go_num, by rw [List.length_set]; exact hcl, fun j hj => ?_, (Below.trans hE (HW.out.mono (by omega))).setCell (p := ⟨B, k, none⟩) (Nat.le_refl _) _, by rw [← encW_set]; exact (hBr.ext HW.out).set k _⟩
            rw [wd_set (by omega), hcur j hj]
            by_cases hjk : j = k
            · subst hjk; rw [if_pos rfl, if_pos (by omega), T0]; rfl
            · rw [if_neg hjk]
              by_cases h1 : j < k
              · rw [if_pos h1, if_pos (by omega)]
              · rw [if_neg h1, if_neg (by omega)]
    · have hk' : k = n := by omega
      subst hk'
      have HH := Lib.hid (And.intro hcl (And.intro hcur (And.intro hE hBr)))
      clear hcl hcur hE hBr c1 c2 c3
      go_wp2
      go_end0
      obtain ⟨hcl, hcur, hE, hBr⟩ := HH.out
      have e : cur = turnW f t on ws := by
        apply List.ext_getElem (by rw [hcl, turn_len]; omega)
        intro j h1 h2
        have := hcur j (by omega)
        rw [if_pos (by omega)] at this
        simpa [wd, h1, h2] using this
      exact ⟨⟨_, rfl⟩, hE, by rw [← e]; exact hBr⟩
end
end Go.Proofs.YtichgkeglgagfaaDoor
