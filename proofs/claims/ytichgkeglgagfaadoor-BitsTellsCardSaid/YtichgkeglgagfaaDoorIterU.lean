/- bits: ones as an iterator whose body owns blocks. -/
import Derived.Test.YtichgkeglgagfaaDoorIter
import Derived.Test.YtichgkeglgagfaaDoorRU
namespace Go.Proofs.YtichgkeglgagfaaDoor
open Go.RowKit Go
attribute [local go_sem] Oper.semAt_some
section
set_option maxHeartbeats 2000000 in
theorem ones_iterU (x : Nat) (hx : x < 4294967296) (b : Nat) (w : World) (tz : 3 < w.heap.size) (ht : ∀ j, j < 32 → w.cell? ⟨3, j, none⟩ = some (.int .u8 (Lib.deBruijn32tab.getD j 0))) (hb : b < w.heap.size) (hc : w.cell? ⟨b, 0, none⟩ = some (.int .u32 x)) :
    IterU Tryd.prog (fun k => k = b ∨ k = 3) 64 #[.pointer (some ⟨b, 0, none⟩)] (intXs (ones x)) w := by
  intro l J Jx u0 W hW hJ hJx hB hBx hY hJ0
  have c : W.cell? ⟨b, 0, none⟩ = some (.int .u32 x) := (hW.at b 0 hb (.inl (.inl rfl))).trans hc
  have hT : ∀ V, KeepD (fun k => k = b ∨ k = 3) W V → ∀ r : Nat, r < 4294967296 → r ≠ 0 → Calls Tryd.prog 65 #[.int .u32 r] V fun e w' => e = .returned (.int .i64 (Lib.ctz 32 r : Nat)) ∧ V = w' := fun V hV r hr h0 => by
    obtain ⟨hlow, hk⟩ := Lib.lowest_bit 32 r h0 hr
    obtain ⟨hi, htab⟩ := Lib.deBruijn32_at _ hk
    have hcell := ht _ hi
    rw [htab] at hcell
    have h1 := (hW.at 3 (2 ^ Lib.ctz 32 r * 125613361 % 4294967296 / 134217728) tz (.inl (.inr rfl))).trans hcell
    have h2 := (hV.at 3 (2 ^ Lib.ctz 32 r * 125613361 % 4294967296 / 134217728) (Nat.lt_of_lt_of_le tz hW.size) (.inr rfl)).trans h1
    exact tz_core r _ _ V (by simp; omega) (tz32_key r _ hr h0 hlow) hi hk h2
  have H := Lib.hid hY
  have H0 := Lib.hid hJ0
  have HT := Lib.hid hT
  clear hJ hJx hB hBx hY hW ht hc hJ0 hT
  refine callsIn_of_wp Tryd.func64 rfl trivial ?_ rfl
  simp only [Tryd.ntmps64, List.size_toArray, List.length_cons, List.length_nil, Nat.reduceAdd, Nat.reduceSub, Array.replicate_succ, Array.replicate_zero, List.push_toArray, List.append_toArray, List.nil_append, List.cons_append]
  gi_wp2
  gi_loopw [3] (fun s wr => ∃ (r k : Nat) (u : Nat → Prop), s = .int .u32 r ∧ r < 4294967296 ∧ ones r = (ones x).drop k ∧ k ≤ (ones x).length ∧ J k u wr ∧ KeepD (fun k => k = b ∨ k = 3) W wr) (fun s _ => (ones (intOf s).toNat).length)
  case atStart => exact ⟨x, 0, u0, rfl, hx, rfl, by omega, H0.out, KeepD.refl _ _⟩
  case round =>
    obtain ⟨r, k, u, rfl, hr, hd, hkl, hJk, hK⟩ := hrel
    by_cases h0 : r = 0
    · subst h0
      have hkl' : k = (intXs (ones x)).length := by
        rw [ones_zero] at hd
        have := List.drop_eq_nil_iff.1 hd.symm
        simp [intXs]; omega
      subst hkl'
      have HJ := Lib.hid hJk
      clear hd hJk hK hkl
      gi_wp2
      go_end0
      exact ⟨⟨_, rfl⟩, .inl ⟨u, HJ.out⟩⟩
    · have hst := ones_step h0 hr
      have hget : (ones x)[k]? = some (Lib.ctz 32 r) := by
        have := congrArg List.head? (hst.symm.trans hd)
        rw [List.head?_drop] at this
        exact this.symm
      have hd' : ones (r &&& (r - 1)) = (ones x).drop (k + 1) := by
        have := congrArg List.tail (hst.symm.trans hd)
        simpa using this
      have hkl' : k + 1 ≤ (ones x).length := by have := (List.getElem?_eq_some_iff.1 hget).1; omega
      obtain ⟨f1, t1, p1, q1, hy1, hR1⟩ := H.out k u _ wr (intXs_get _ _ _ hget) hJk
      have hlen : (ones (r &&& (r - 1))).length < (ones r).length := by rw [hst]; simp
      have hlt := and_pred_lt hr
      have hf := and_pred_form r hr h0
      have CT := Lib.hid (HT.out wr hK r hr h0)
      have hne : ((r : Int) != 0) = true := by rw [bne_iff_ne]; omega
      generalize Lib.ctz 32 r = z at *
      generalize r &&& (r - 1) = r' at *
      have HK := Lib.hid (And.intro hd' (And.intro hkl' (And.intro hK (And.intro hlen hlt))))
      clear hst hget hd hd' hkl hkl' hJk hK hlen
      gi_wp2_with (gi_at_call 65; refine (callsIn_wide.2 CT.out).mono ?_; rintro e w1 ⟨rfl, rfl⟩)
      refine hR1.mono ?_
      rintro e W2 ⟨u', hu', (⟨rfl, hJ2, hk2⟩ | ⟨rfl, hx2, _⟩)⟩
      · have HJ := Lib.hid (And.intro hJ2 hk2)
        clear hJ2 hk2
        gi_wp2
        exact ⟨⟨r', k + 1, u', rfl, HK.out.2.2.2.2, HK.out.1, HK.out.2.1, HJ.out.1, HK.out.2.2.1.trans ⟨HJ.out.2.size, fun i hi hd => HJ.out.2.same i hi (.inl hd)⟩⟩, by simpa [intOf] using HK.out.2.2.2.1⟩
      · have HJ := Lib.hid hx2
        clear hx2
        gi_wp2
        refine bodyPost_ret (results_none rfl _ _ _) rfl ?_
        exact ⟨⟨_, rfl⟩, .inr ⟨k + 1, u', by simp [intXs]; exact HK.out.2.1, HJ.out⟩⟩
end
end Go.Proofs.YtichgkeglgagfaaDoor
