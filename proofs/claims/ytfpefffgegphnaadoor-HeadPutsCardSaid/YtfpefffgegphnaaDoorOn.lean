/- arena: onward as an iterator; filled, Count. -/
import Derived.Test.YtfpefffgegphnaaDoorMeth
namespace Go.Proofs.YtfpefffgegphnaaDoor
open Go.RowKit Go
attribute [local go_sem] Oper.semAt_some
section
variable {a : Nat → Addr}

theorem onward_mk (p : Nat) (x : Int) (w : World) :
    Calls Tryd.prog 53 #[ptr p, .int .i64 x] w fun e w' => e = .returned (.func (.func 61) #[] #[ptr w.heap.size, ptr (w.heap.size + 1)]) ∧ w' = (w.alloc (.cells #[ptr p] 85)).alloc (.cells #[.int .i64 x] 3) := by
  go_enter Tryd.func53, Tryd.ntmps53
  go_wp2
  go_ret
  exact ⟨rfl, rfl⟩
/-- what onward yields from x on -/
def onXs (L : List UInt8) (x : Nat) : List (Array Value) := (List.range (L.length - x)).map fun i => #[.int .i64 (i : Nat), .int .u8 ((L.getD (x + i) 0).toNat : Int)]
theorem onXs_len (L : List UInt8) (x : Nat) : (onXs L x).length = L.length - x := by simp [onXs]
theorem onXs_get (L : List UInt8) (x i : Nat) (h : x + i < L.length) : (onXs L x)[i]? = some #[.int .i64 (i : Nat), .int .u8 ((L.getD (x + i) 0).toNat : Int)] := by
  simp [onXs, List.getElem?_range (show i < L.length - x by omega)]
theorem onXs_cases {L : List UInt8} {x k : Nat} {v : Array Value} (h : (onXs L x)[k]? = some v) : x + k < L.length ∧ v = #[.int .i64 (k : Nat), .int .u8 ((L.getD (x + k) 0).toNat : Int)] := by
  have h1 : k < (onXs L x).length := (List.getElem?_eq_some_iff.1 h).1
  rw [onXs_len] at h1
  rw [onXs_get L x k (by omega)] at h
  exact ⟨by omega, (Option.some.inj h).symm⟩

set_option maxHeartbeats 2000000 in
set_option maxRecDepth 100000 in
theorem onward_iter (p g : Nat) (L : List UInt8) (x : Nat) (hx : x < L.length) (b b' : Nat) (w : World) (hA : Ar w p g L) (hb : b < w.heap.size) (hb' : b' < w.heap.size) (hc : w.cell? ⟨b, 0, none⟩ = some (ptr p)) (hc' : w.cell? ⟨b', 0, none⟩ = some (.int .i64 (x : Nat))) :
    Iter Tryd.prog (fun k => k = b ∨ k = b' ∨ k = p ∨ k = g) 61 #[ptr b, ptr b'] (onXs L x) w := by
  intro l J Jx W hW hJ hJx hY hJ0
  have c0 : W.cell? ⟨b, 0, none⟩ = some (ptr p) := (hW.at b 0 hb (.inl (.inl rfl))).trans hc
  have c1 : W.cell? ⟨b', 0, none⟩ = some (.int .i64 (x : Nat)) := (hW.at b' 0 hb' (.inl (.inr (.inl rfl)))).trans hc'
  have c2 : W.cell? ⟨p, 0, none⟩ = some (.slice (some ⟨g, 0, none⟩) L.length L.length) := (hW.at p 0 hA.p.lt (.inl (.inr (.inr (.inl rfl))))).trans (hA.p.cell 0)
  have hgB : Blk W g (bts L) 5 := hA.b.keep hW (.inl (.inr (.inr (.inr rfl))))
  have hle := hA.le
  have H := Lib.hid (And.intro hJ (And.intro hJx hY))
  have H0 := Lib.hid hJ0
  clear hJ hJx hY hW hc hc' hJ0 hA
  refine callsIn_of_wp Tryd.func61 rfl trivial ?_ rfl
  simp only [Tryd.ntmps61, List.size_toArray, List.length_cons, List.length_nil, Nat.reduceAdd, Nat.reduceSub, Array.replicate_succ, Array.replicate_zero, List.push_toArray, List.append_toArray, List.nil_append, List.cons_append]
  have hne : ¬ L.length = x := by omega
  gi_wp2
  obtain ⟨M, hM⟩ : ∃ M, L.length - x = M := ⟨_, rfl⟩
  gi_region
  gi_wp2
  gi_loopw [13] (fun s wr => ∃ k : Nat, s = .int .i64 (k : Nat) ∧ k ≤ M ∧ J k wr ∧ Keep (fun k => k = b ∨ k = b' ∨ k = p ∨ k = g) W.heap.size W wr) (fun s _ => M - (intOf s).toNat)
  case atStart => exact ⟨0, rfl, by omega, H.out.1 _ _ _ H0.out (Below.refl _ _).drew, (Keep.refl _ _ _).drew⟩
  case round =>
    obtain ⟨k, rfl, hkl, hJk, hK⟩ := hrel
    by_cases hlt : x + k < L.length
    · have hg := onXs_get L x k hlt
      obtain ⟨f1, t1, p1, q1, hy1, hR1⟩ := H.out.2.2 k _ wr hg hJk
      have c3 := ((hgB.keep hK (.inl (.inr (.inr (.inr rfl))))).cell (x + k)).trans (bts_get' L (x + k) hlt)
      have hi : (k : Int) < (M : Int) := by omega
      have hi' : k < M := by omega
      have hi2 : (k : Int) + 1 ≤ 131072 := by omega
      generalize (L.getD (x + k) 0).toNat = d at *
      have HK := Lib.hid (And.intro hK hkl)
      have HH := Lib.hid (And.intro hM (And.intro hne (And.intro hx hle)))
      clear hg hK hJk hgB hkl hlt hM hne hx hle
      gi_wp2
      refine hR1.mono ?_
      rintro e W2 (⟨rfl, hJ2, hk2⟩ | ⟨rfl, hx2, _⟩)
      · have HJ := Lib.hid (And.intro hJ2 hk2)
        clear hJ2 hk2
        gi_wp2
        exact ⟨⟨k + 1, by go_num, hi', HJ.out.1, HK.out.1.trans ⟨HJ.out.2.size, fun i hi hd => HJ.out.2.same i hi (hd.imp id (fun h => h))⟩⟩, by simp [intOf]; omega⟩
      · have HJ := Lib.hid hx2
        clear hx2
        gi_wp2
        refine bodyPost_ret (results_none rfl _ _ _) rfl ?_
        exact ⟨⟨_, rfl⟩, .inr ⟨k + 1, by rw [onXs_len, HH.out.1]; exact hi', HJ.out⟩⟩
    · obtain rfl : k = M := by omega
      have hlen := onXs_len L x
      rw [← hM, ← hlen] at hJk
      have HJ := Lib.hid hJk
      clear hJk hK hkl
      gi_wp2
      go_end0
      exact ⟨⟨_, rfl⟩, .inl HJ.out⟩
/-- how many bytes are not 0 -/
def nz (l : List UInt8) : Nat := l.countP (fun b => b != 0)
theorem nz_step (L : List UInt8) (k : Nat) (h : k < L.length) : nz (L.take (k + 1)) = nz (L.take k) + (if L.getD k 0 = 0 then 0 else 1) := by
  have e : L.take (k + 1) = L.take k ++ [L.getD k 0] := by
    rw [List.take_add_one, List.getElem?_eq_getElem h]
    simp [List.getD, List.getElem?_eq_getElem h]
  rw [e]
  unfold nz
  rw [List.countP_append]
  by_cases h0 : L.getD k 0 = 0
  · rw [h0]; simp
  · rw [List.countP_cons_of_pos (by simpa using h0), if_neg h0]; simp
theorem nz_le (l : List UInt8) : nz l ≤ l.length := List.countP_le_length

set_option maxHeartbeats 2000000 in
set_option maxRecDepth 100000 in
theorem filled_any (p g : Nat) (L : List UInt8) (w : World) (hA : Ar w p g L) :
    Calls Tryd.prog 45 #[ptr p] w fun e w' => e = .returned (.int .i64 (nz L : Nat)) ∧ Ext w w' := by
  refine calls_of_marks Tryd.func45 rfl ?_
  simp only [Tryd.ntmps45, List.size_toArray, List.length_cons, List.length_nil, Nat.reduceAdd, Nat.reduceSub, Array.replicate_succ, Array.replicate_zero, List.push_toArray, List.append_toArray, List.nil_append, List.cons_append]
  have A' := Lib.hid hA
  clear hA
  go_wp2_with (go_at_call 53; refine (onward_mk _ _ _).mono ?_; rintro e w' ⟨rfl, rfl⟩)
  refine wp_world ?_
  intro w1 hw1
  have hE1 : Ext w w1 := by rw [hw1]; exact ext3 _ _ _ _
  have hz1 : w1.heap.size = w.heap.size + 3 := by rw [hw1]; simp
  have hb0 : Blk w1 w.heap.size #[.int .i64 0] 3 := by rw [hw1]; exact ((Blk.new _ _ _).alloc _).alloc _
  have hb1 : Blk w1 (w.heap.size + 1) #[ptr p] 85 := by rw [hw1]; have := (Blk.new (w.alloc (.cells #[.int .i64 0] 3)) #[ptr p] 85).alloc (.cells #[.int .i64 0] 3); rwa [World.size_alloc] at this
  have hb2 : Blk w1 (w.heap.size + 1 + 1) #[.int .i64 (0 : Nat)] 3 := by
    rw [hw1]
    have := Blk.new ((w.alloc (.cells #[.int .i64 0] 3)).alloc (.cells #[ptr p] 85)) #[.int .i64 0] 3
    rw [World.size_alloc, World.size_alloc] at this
    exact this
  clear hw1
  have hAr := A'.out.ext hE1
  have hlt1 := A'.out.p.lt
  have hlt2 := A'.out.b.lt
  refine range_outer (D := fun k => k = w.heap.size + 1 ∨ k = w.heap.size + 1 + 1 ∨ k = p ∨ k = g) rfl (enters_of Tryd.func61 (by kernel_rfl) rfl)
    (onward_iter p g L 0 A'.out.n0 (w.heap.size + 1) (w.heap.size + 1 + 1) w1 hAr (by omega) (by omega) (hb1.cell 0) (hb2.cell 0)) (by rintro k (rfl | rfl | rfl | rfl) <;> omega) (Keep.refl _ _ _) (by intro x hx; obtain ⟨i, _, rfl⟩ := List.mem_map.1 hx; rfl)
    (fun k W => Ext w W ∧ Blk W w.heap.size #[.int .i64 (nz (L.take k) : Nat)] 3) (fun _ _ _ => False) ?hI (fun _ _ _ _ h _ => h.elim) ⟨hE1, hb0⟩ ?hround ?hdone (fun _ _ _ _ _ _ h _ => h.elim)
  case hI =>
    rintro k A B ⟨h1, h2⟩ hb
    exact ⟨Below.trans h1 (hb.mono (by omega)), h2.below hb (by omega)⟩
  case hround =>
    rintro l k x W hx hl hr ⟨hE, hB0⟩
    obtain ⟨hk, rfl⟩ := onXs_cases hx
    rw [Nat.zero_add] at *
    have hst := nz_step L k hk
    have hle := nz_le (L.take k)
    have hle2 : (L.take k).length ≤ 131072 := by have := A'.out.le; simp; omega
    have hnd : ((L.getD k 0).toNat : Int) = 0 ↔ L.getD k 0 = 0 := by
      constructor
      · intro h; exact UInt8.toNat_inj.1 (by simpa using h)
      · intro h; rw [h]; rfl
    have H := Lib.hid (And.intro hE (And.intro hB0 hst))
    generalize hdg : ((L.getD k 0).toNat : Int) = d at *
    clear hE hB0 hx hst hdg
    by_cases hd : d = 0
    · have hL := hnd.1 hd
      subst hd
      clear hnd
      gi_wp2
      refine to_body hl hr ?_
      intro W' hW' hr'
      obtain ⟨hE, hB0, hst⟩ := H.out
      replace hE := Below.trans hE (hW'.mono (by omega))
      replace hB0 := hB0.below hW' (by omega)
      have H' := Lib.hid (And.intro hE (And.intro hB0 (And.intro hst hL)))
      clear hE hB0 H hr hr' hW' hst hL
      gi_wp2
      exact ⟨Keep.refl _ _ _, H'.out.1, by rw [H'.out.2.2.1, if_pos H'.out.2.2.2]; exact H'.out.2.1⟩
    · have hL := fun h => hd (hnd.2 h)
      have hd' : (d != 0) = true := by simpa using hd
      clear hnd hd
      gi_wp2
      refine to_body hl hr ?_
      intro W' hW' hr'
      obtain ⟨hE, hB0, hst⟩ := H.out
      replace hE := Below.trans hE (hW'.mono (by omega))
      replace hB0 := hB0.below hW' (by omega)
      have c0 := hB0.cell 0
      have f0 := hB0.frozen 0
      simp at c0
      have hi : ((nz (L.take k) : Nat) : Int) ≤ 131072 := by omega
      have H' := Lib.hid (And.intro hE (And.intro hB0 (And.intro hst hL)))
      clear hE hB0 H hr hr' hW' hst hL
      generalize hng : nz (L.take k) = n at *
      gi_wp2
      refine ⟨(Keep.refl _ _ _).setCell _ _ (.inl (by show w.heap.size < _; omega)) (.inl (by show ¬ (w.heap.size = _ ∨ w.heap.size = _ ∨ w.heap.size = _ ∨ w.heap.size = _); omega)), H'.out.1.setCell (p := ⟨w.heap.size, _, none⟩) (Nat.le_refl _) _, ?_⟩
      rw [H'.out.2.2.1, if_neg H'.out.2.2.2, Int.natCast_add]
      exact H'.out.2.1.set 0 _
  case hdone =>
    rintro K W hK ⟨hE, hB0⟩ hk
    have c0 := hB0.cell 0
    rw [onXs_len, Nat.sub_zero, List.take_length] at c0
    simp at c0
    have H := Lib.hid (And.intro hE (And.intro hk hK))
    clear hE hB0 hk hK
    go_wp2
    obtain ⟨hE, hk, hK⟩ := H.out
    exact leave_mark hk (results_tmp rfl _ _ _) ⟨rfl, Below.trans hE (below_putObj W K w.heap.size _ (by omega))⟩

theorem count_any (p g : Nat) (L : List UInt8) (w : World) (hG : G a w) (hA : Ar w p g L) :
    Calls Tryd.prog 29 #[ptr p] w fun e w' => e = .returned (.int .i64 (nz L : Nat)) ∧ Ext w w' := by
  have N := Lib.hid (fun W (hW : Ext w W) => asErr (a := a) .nilIface rfl (noArena_ok p g L W (hG.ext hW) (hA.ext hW)))
  have T := Lib.hid (fun b t W (hW : Ext w W) (hB : Blk W b #[.nilIface] t) => (tell1 (a := a) 0 (by decide) 0 rfl b t W (hG.ext hW) hB).mono fun e w' ⟨he, hw⟩ => (⟨he, hw ▸ hW⟩ : _ ∧ Ext w w'))
  have F := Lib.hid (fun W (hW : Ext w W) => filled_any p g L W (hA.ext hW))
  clear hG hA
  go_enter Tryd.func29, Tryd.ntmps29
  go_wp2_with (first
    | (go_at_call 40; refine (N.out _ (Ext.refl _)).mono ?_; rintro e w1 ⟨rfl, hX⟩)
    | (go_at_call 37; refine (T.out _ _ _ (Ext.trans hX (ext1 _ _)) (Blk.new _ _ _)).mono ?_; rintro e w3 ⟨rfl, h3⟩; replace hX := h3; clear h3)
    | (go_at_call 45; refine (F.out _ hX).mono ?_; rintro e w3 ⟨rfl, h3⟩; replace hX := Ext.trans hX h3; clear h3))
  go_ret
  exact ⟨rfl, hX⟩
end
end Go.Proofs.YtfpefffgegphnaaDoor
