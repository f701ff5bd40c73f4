/- arena: setWord; Load, Store. -/
import Derived.Test.YtmehoieijelncaaDoorWord
namespace Go.Proofs.YtmehoieijelncaaDoor
open Go.RowKit Go
section
variable {a : Nat → Addr}

theorem part_in (p g : Nat) (L : List UInt8) (x y : Nat) (hx : x < L.length) (hy : x + y ≤ L.length) (w : World) (h : Ar w p g L) :
    Calls Tryd.prog 31 #[ptr p, .int .i64 (x : Nat), .int .i64 (y : Nat)] w fun e w' => e = .returned (.slice (some ⟨g, x, none⟩) y (L.length - x)) ∧ w = w' := by
  have c0 : w.cell? ⟨p, 0, none⟩ = some (.slice (some ⟨g, 0, none⟩) L.length L.length) := h.p.cell 0
  have hl := h.le
  clear h
  have h1 : (x : Int) + y ≤ 131072 := by omega
  have hq : ¬ L.length = x := by omega
  have h2 : x + y - x = y := by omega
  go_enter Tryd.func31, Tryd.ntmps31
  go_wp2
  go_ret
  exact ⟨ret_val (by show Value.slice _ (x + y - x) _ = _; rw [h2]), rfl⟩

theorem copy_row_some {P : Program} (w : World) (dT sT elem : TypeId) (hu : P.underlying dT = some (.slice elem)) (hsz : (P.info? elem).map (·.size) = some 1)
    (dCap sCap B : Nat) (S L : List UInt8) (g off : Nat) (t t' : TypeId) (hg : Blk w g (bts L) t) (hB : Blk w B (bts S) t') (hfit : off + S.length ≤ L.length) :
    ∃ w', (∀ ty, (Builtin.copy_ #[dT, sT] ty #[.slice (some ⟨g, off, none⟩) S.length dCap, .slice (some ⟨B, 0, none⟩) S.length sCap]).run P w = .ok (goInt S.length) w') ∧ Chg g w w' ∧ Blk w' g (bts (lay L off S)) t := by
  refine ⟨_, fun ty => ?_, Chg.setRow g w (bts (lay L off S)), setRow_heap w g _ _ t _ hg⟩
  have := run_copy_row P w dT sT ty elem g off S.length dCap ⟨B, 0, none⟩ S.length sCap (bts L) t (S.map bv) hu hsz hg (by simp) (fun j v hj => by
    have e : (⟨B, 0, none⟩ : Addr).add j = ⟨B, j, none⟩ := by unfold Addr.add; by_cases h0 : j = 0 <;> simp [h0]
    rw [e, hB.cell]; simpa [bts] using hj) (by simpa [bts] using hfit) (by intro v hv; obtain ⟨b, _, rfl⟩ := List.mem_map.1 hv; rfl)
  rw [bts_lay, List.length_map] at this
  exact this

/-- a word's bytes, the least part first -/
def wb (v : Nat) : List UInt8 := [UInt8.ofNat v, UInt8.ofNat (v / 256), UInt8.ofNat (v / 65536), UInt8.ofNat (v / 16777216)]
theorem wb_bts (v : Nat) (hv : v < 4294967296) : #[.int .u8 ((v : Int) % 256), .int .u8 ((v : Int) / 256 % 256), .int .u8 ((v : Int) / 65536 % 256), .int .u8 ((v : Int) / 16777216)] = bts (wb v) := by
  simp [bts, wb, bv, UInt8.toNat_ofNat']
  omega

set_option maxHeartbeats 4000000 in
set_option maxRecDepth 100000 in
theorem setWord_any (p g : Nat) (L : List UInt8) (x : Nat) (hx : x + 4 ≤ L.length) (v : Nat) (hv : v < 4294967296) (w : World) (hA : Ar w p g L) :
    Calls Tryd.prog 41 #[ptr p, .int .i64 (x : Nat), .int .u32 (v : Nat)] w fun e w' => e = .returned (.tuple #[]) ∧ Chg g w w' ∧ Ar w' p g (lay L x (wb v)) := by
  have A' := Lib.hid hA
  clear hA
  have hv2 : (v : Int) < 4294967296 := by omega
  have hv0 : (0 : Int) ≤ v := by omega
  go_enter Tryd.func41, Tryd.ntmps41
  go_wp2
  refine wp_loop_rounds 5 ?_
  rw [rounds_succ]
  go_wp2
  rw [rounds_succ]
  go_wp2
  rw [rounds_succ]
  go_wp2
  rw [rounds_succ]
  go_wp2
  rw [rounds_succ]
  go_wp2
  rw [wb_bts v hv]
  refine wp_region_tail 5 4 rfl (by kernel_rfl) (by kernel_rfl) (by kernel_rfl) ?_
  apply Exists.intro
  have hE1 := ext1 w (.cells (bts (wb v)) 85)
  have PI := Lib.hid (fun W (hW : Ext (w.alloc (.cells (bts (wb v)) 85)) W) => (part_in p g L x 4 (by omega) hx W ((A'.out.ext hE1).ext hW)))
  have HN := Lib.hid (show Blk (w.alloc (.cells (bts (wb v)) 85)) w.heap.size (bts (wb v)) 85 from Blk.new _ _ _)
  refine ⟨fun c => ?_, fun W hW => ?_⟩
  · have hx := fun (o : From c.w) p h => From.cell2 c.h o p h
    simp only [List.take_succ_cons, List.take_zero]
    repeat (go_big_quiet_step ((go_at_call 31; exact on_call (fun W hW => (PI.out W (Ext.trans c.h hW)).mono fun e w' ⟨he, hw⟩ => ⟨he, hw ▸ Ext.refl _⟩) _)))
    exact wpQuiet_nil rfl
  · simp only [List.drop_succ_cons, List.drop_zero]
    obtain ⟨w5, kc, hc5, hb5⟩ := copy_row_some (P := Tryd.prog) W 43 43 5 Tryd.underlying43 (by kernel_rfl) (L.length - x) 4 w.heap.size (wb v) L g x 5 85 ((A'.out.ext hE1).ext hW).b (HN.out.ext hW) (by simpa [wb] using hx)
    have hZ := Lib.hid (And.intro ((Chg.of_ext (Ext.trans hE1 hW)).trans hc5) (((A'.out.ext hE1).ext hW).chg hc5 hb5 (lay_len L x _ (by simpa [wb] using hx))))
    rw [show (wb v).length = 4 from rfl] at kc
    clear hc5 hb5 hW
    go_wp2
    go_end0
    exact ⟨rfl, hZ.out⟩
end
end Go.Proofs.YtmehoieijelncaaDoor
