/- selionlaw03.do: a call on an arena, whatever it is (made by gen_do.py). -/
import Derived.Test.YtmehoieijelncaaDoorAny
namespace Go.Proofs.YtmehoieijelncaaDoor
open Go.RowKit Go
theorem at_newA (w : World) (o : Obj) (cs : Array Value) (t : TypeId) : Blk ((w.alloc o).alloc (.cells cs t)) (w.heap.size + 1) cs t := by
  have := Blk.new (w.alloc o) cs t
  rwa [World.size_alloc] at this
theorem at_newB (w : World) (o o2 : Obj) (cs : Array Value) (t : TypeId) : Blk (((w.alloc o).alloc o2).alloc (.cells cs t)) (w.heap.size + 1 + 1) cs t := by
  have := Blk.new ((w.alloc o).alloc o2) cs t
  rwa [World.size_alloc, World.size_alloc] at this
section
variable {a : Nat → Addr}
set_option maxHeartbeats 4000000 in
set_option maxRecDepth 100000 in
theorem do_0 (p g : Nat) (L : List UInt8) (at_ n : Int) (v : Nat) (s : List UInt8) (_hv : v < 4294967296) (w : World) (hG : G a w) (hA : Ar w p g L) :
    Calls Tryd.prog 16 #[ptr p, .agg #[.int .i64 0, .int .i64 at_, .int .i64 n, .int .u32 (v : Nat), .string ⟨s.toArray⟩]] w (Does g p w (.agg (doC L ⟨0, at_, n, v, s⟩)) (doL L ⟨0, at_, n, v, s⟩)) := by
  have M := Lib.hid (fun W (hW : Ext w W) => load_any (a := a) p g L at_ W (hG.ext hW) (hA.ext hW))
  have hpl := hA.p.lt
  have hgl := hA.b.lt
  have hC : doC L ⟨0, at_, n, v, s⟩ = #[.int .i64 (0), .int .u32 (ldV L at_ : Nat), .string ⟨([]).toArray⟩, .int .i64 (ldE L at_)] := by rfl
  have hD : doL L ⟨0, at_, n, v, s⟩ = L := by rfl
  rw [hC, hD]
  clear hC hD
  generalize ldV L at_ = V9 at *
  generalize ldE L at_ = E9 at *
  clear hG hA
  go_enter Tryd.func16, Tryd.ntmps16
  go_wp2_with (first
    | (go_at_call 24; refine (M.out _ (ext3 w _ _ _)).mono ?_; rintro e w2 ⟨rfl, hc, hA2⟩; have b3 := (((Blk.new w #[.int .i64 0, .int .i64 at_, .int .i64 n, .int .u32 (v : Nat), .string ⟨s.toArray⟩] 39).alloc (.cells #[.int .i64 0, .int .u32 0, .string ⟨#[]⟩, .int .i64 0] 36)).alloc (.cells #[.int .i64 0, .int .u32 0, .string ⟨#[]⟩, .int .i64 0] 36)).chg hc (by omega); have b4 := ((at_newA w _ #[.int .i64 0, .int .u32 0, .string ⟨#[]⟩, .int .i64 0] 36).alloc (.cells #[.int .i64 0, .int .u32 0, .string ⟨#[]⟩, .int .i64 0] 36)).chg hc (by omega); have b5 := (at_newB w _ _ #[.int .i64 0, .int .u32 0, .string ⟨#[]⟩, .int .i64 0] 36).chg hc (by omega); have HZ := Lib.hid (And.intro ((Chg.of_ext (ext3 w _ _ _)).trans hc) hA2); clear hc hA2 b3; have r0 := b4.frozen 0; have r1 := b4.frozen 1; have r2 := b4.frozen 2; have r3 := b4.frozen 3; have q0 := b5.frozen 0; have q1 := b5.frozen 1; have q2 := b5.frozen 2; have q3 := b5.frozen 3; have d0 := b4.cell 0; have d1 := b4.cell 1; have d2 := b4.cell 2; have d3 := b4.cell 3; have c0 := b5.cell 0; have c1 := b5.cell 1; have c2 := b5.cell 2; have c3 := b5.cell 3; simp only [List.getElem?_toArray, List.getElem?_cons_zero, List.getElem?_cons_succ] at d0 d1 d2 d3 c0 c1 c2 c3))
  have f := (((((b4.other ⟨w.heap.size + 1 + 1, 1, none⟩ (.int .u32 (V9 : Nat)) (by show w.heap.size + 1 ≠ w.heap.size + 1 + 1; omega)).other ⟨w.heap.size + 1 + 1, 3, none⟩ (.int .i64 E9) (by show w.heap.size + 1 ≠ w.heap.size + 1 + 1; omega)).set 0 (.int .i64 (0))).set 1 (.int .u32 ((V9 : Nat) : Int))).set 2 (.string ⟨([]).toArray⟩)).set 3 (.int .i64 (E9))
  have e0 := f.cell 0
  have e1 := f.cell 1
  have e2 := f.cell 2
  have e3 := f.cell 3
  simp at e0 e1 e2 e3
  refine bodyPost_ret (v := .agg #[.int .i64 (0), .int .u32 ((V9 : Nat) : Int), .string ⟨([]).toArray⟩, .int .i64 (E9)]) (by simp [results, Tryd.results16, go_sem, e0, e1, e2, e3]) rfl ⟨rfl, ?_, ?_⟩
  · repeat (refine Chg.setNew ?_ _ _ _ (by omega))
    exact HZ.out.1
  · repeat (refine Ar.setNew ?_ _ _ _ (by omega) (by omega))
    exact HZ.out.2
set_option maxHeartbeats 4000000 in
set_option maxRecDepth 100000 in
theorem do_1 (p g : Nat) (L : List UInt8) (at_ n : Int) (v : Nat) (s : List UInt8) (hv : v < 4294967296) (w : World) (hG : G a w) (hA : Ar w p g L) :
    Calls Tryd.prog 16 #[ptr p, .agg #[.int .i64 1, .int .i64 at_, .int .i64 n, .int .u32 (v : Nat), .string ⟨s.toArray⟩]] w (Does g p w (.agg (doC L ⟨1, at_, n, v, s⟩)) (doL L ⟨1, at_, n, v, s⟩)) := by
  have M := Lib.hid (fun W (hW : Ext w W) => store_any (a := a) p g L at_ v hv W (hG.ext hW) (hA.ext hW))
  have hpl := hA.p.lt
  have hgl := hA.b.lt
  have hC : doC L ⟨1, at_, n, v, s⟩ = #[.int .i64 (0), .int .u32 (0 : Nat), .string ⟨([]).toArray⟩, .int .i64 (ldE L at_)] := by rfl
  have hD : doL L ⟨1, at_, n, v, s⟩ = stL L at_ v := by rfl
  rw [hC, hD]
  clear hC hD
  generalize ldE L at_ = E9 at *
  have hLL : True := trivial
  generalize stL L at_ v = L9 at *
  clear hG hA
  go_enter Tryd.func16, Tryd.ntmps16
  go_wp2_with (first
    | (go_at_call 23; refine (M.out _ (ext3 w _ _ _)).mono ?_; rintro e w2 ⟨rfl, hc, hA2⟩; have b3 := (((Blk.new w #[.int .i64 1, .int .i64 at_, .int .i64 n, .int .u32 (v : Nat), .string ⟨s.toArray⟩] 39).alloc (.cells #[.int .i64 0, .int .u32 0, .string ⟨#[]⟩, .int .i64 0] 36)).alloc (.cells #[.int .i64 0, .int .u32 0, .string ⟨#[]⟩, .int .i64 0] 36)).chg hc (by omega); have b4 := ((at_newA w _ #[.int .i64 0, .int .u32 0, .string ⟨#[]⟩, .int .i64 0] 36).alloc (.cells #[.int .i64 0, .int .u32 0, .string ⟨#[]⟩, .int .i64 0] 36)).chg hc (by omega); have b5 := (at_newB w _ _ #[.int .i64 0, .int .u32 0, .string ⟨#[]⟩, .int .i64 0] 36).chg hc (by omega); have HZ := Lib.hid (And.intro ((Chg.of_ext (ext3 w _ _ _)).trans hc) hA2); clear hc hA2 b3; have r0 := b4.frozen 0; have r1 := b4.frozen 1; have r2 := b4.frozen 2; have r3 := b4.frozen 3; have q0 := b5.frozen 0; have q1 := b5.frozen 1; have q2 := b5.frozen 2; have q3 := b5.frozen 3; have d0 := b4.cell 0; have d1 := b4.cell 1; have d2 := b4.cell 2; have d3 := b4.cell 3; have c0 := b5.cell 0; have c1 := b5.cell 1; have c2 := b5.cell 2; have c3 := b5.cell 3; simp only [List.getElem?_toArray, List.getElem?_cons_zero, List.getElem?_cons_succ] at d0 d1 d2 d3 c0 c1 c2 c3))
  have f := ((((b4.other ⟨w.heap.size + 1 + 1, 3, none⟩ (.int .i64 E9) (by show w.heap.size + 1 ≠ w.heap.size + 1 + 1; omega)).set 0 (.int .i64 (0))).set 1 (.int .u32 ((0 : Nat) : Int))).set 2 (.string ⟨([]).toArray⟩)).set 3 (.int .i64 (E9))
  have e0 := f.cell 0
  have e1 := f.cell 1
  have e2 := f.cell 2
  have e3 := f.cell 3
  simp at e0 e1 e2 e3
  refine bodyPost_ret (v := .agg #[.int .i64 (0), .int .u32 ((0 : Nat) : Int), .string ⟨([]).toArray⟩, .int .i64 (E9)]) (by simp [results, Tryd.results16, go_sem, e0, e1, e2, e3]) rfl ⟨rfl, ?_, ?_⟩
  · repeat (refine Chg.setNew ?_ _ _ _ (by omega))
    exact HZ.out.1
  · repeat (refine Ar.setNew ?_ _ _ _ (by omega) (by omega))
    exact HZ.out.2
set_option maxHeartbeats 4000000 in
set_option maxRecDepth 100000 in
theorem do_2 (p g : Nat) (L : List UInt8) (at_ n : Int) (v : Nat) (s : List UInt8) (_hv : v < 4294967296) (w : World) (hG : G a w) (hA : Ar w p g L) :
    Calls Tryd.prog 16 #[ptr p, .agg #[.int .i64 2, .int .i64 at_, .int .i64 n, .int .u32 (v : Nat), .string ⟨s.toArray⟩]] w (Does g p w (.agg (doC L ⟨2, at_, n, v, s⟩)) (doL L ⟨2, at_, n, v, s⟩)) := by
  have M := Lib.hid (fun W (hW : Ext w W) => byte_any (a := a) p g L at_ W (hG.ext hW) (hA.ext hW))
  have hpl := hA.p.lt
  have hgl := hA.b.lt
  have hC : doC L ⟨2, at_, n, v, s⟩ = #[.int .i64 (byV L at_), .int .u32 (0 : Nat), .string ⟨([]).toArray⟩, .int .i64 (rdE L at_ 1)] := by rfl
  have hD : doL L ⟨2, at_, n, v, s⟩ = L := by rfl
  rw [hC, hD]
  clear hC hD
  generalize byV L at_ = N9 at *
  generalize rdE L at_ 1 = E9 at *
  clear hG hA
  go_enter Tryd.func16, Tryd.ntmps16
  go_wp2_with (first
    | (go_at_call 25; refine (M.out _ (ext3 w _ _ _)).mono ?_; rintro e w2 ⟨rfl, hc, hA2⟩; have b3 := (((Blk.new w #[.int .i64 2, .int .i64 at_, .int .i64 n, .int .u32 (v : Nat), .string ⟨s.toArray⟩] 39).alloc (.cells #[.int .i64 0, .int .u32 0, .string ⟨#[]⟩, .int .i64 0] 36)).alloc (.cells #[.int .i64 0, .int .u32 0, .string ⟨#[]⟩, .int .i64 0] 36)).chg hc (by omega); have b4 := ((at_newA w _ #[.int .i64 0, .int .u32 0, .string ⟨#[]⟩, .int .i64 0] 36).alloc (.cells #[.int .i64 0, .int .u32 0, .string ⟨#[]⟩, .int .i64 0] 36)).chg hc (by omega); have b5 := (at_newB w _ _ #[.int .i64 0, .int .u32 0, .string ⟨#[]⟩, .int .i64 0] 36).chg hc (by omega); have HZ := Lib.hid (And.intro ((Chg.of_ext (ext3 w _ _ _)).trans hc) hA2); clear hc hA2 b3; have r0 := b4.frozen 0; have r1 := b4.frozen 1; have r2 := b4.frozen 2; have r3 := b4.frozen 3; have q0 := b5.frozen 0; have q1 := b5.frozen 1; have q2 := b5.frozen 2; have q3 := b5.frozen 3; have d0 := b4.cell 0; have d1 := b4.cell 1; have d2 := b4.cell 2; have d3 := b4.cell 3; have c0 := b5.cell 0; have c1 := b5.cell 1; have c2 := b5.cell 2; have c3 := b5.cell 3; simp only [List.getElem?_toArray, List.getElem?_cons_zero, List.getElem?_cons_succ] at d0 d1 d2 d3 c0 c1 c2 c3))
  have f := (((((b4.other ⟨w.heap.size + 1 + 1, 0, none⟩ (.int .i64 N9) (by show w.heap.size + 1 ≠ w.heap.size + 1 + 1; omega)).other ⟨w.heap.size + 1 + 1, 3, none⟩ (.int .i64 E9) (by show w.heap.size + 1 ≠ w.heap.size + 1 + 1; omega)).set 0 (.int .i64 (N9))).set 1 (.int .u32 ((0 : Nat) : Int))).set 2 (.string ⟨([]).toArray⟩)).set 3 (.int .i64 (E9))
  have e0 := f.cell 0
  have e1 := f.cell 1
  have e2 := f.cell 2
  have e3 := f.cell 3
  simp at e0 e1 e2 e3
  refine bodyPost_ret (v := .agg #[.int .i64 (N9), .int .u32 ((0 : Nat) : Int), .string ⟨([]).toArray⟩, .int .i64 (E9)]) (by simp [results, Tryd.results16, go_sem, e0, e1, e2, e3]) rfl ⟨rfl, ?_, ?_⟩
  · repeat (refine Chg.setNew ?_ _ _ _ (by omega))
    exact HZ.out.1
  · repeat (refine Ar.setNew ?_ _ _ _ (by omega) (by omega))
    exact HZ.out.2
set_option maxHeartbeats 4000000 in
set_option maxRecDepth 100000 in
theorem do_3 (p g : Nat) (L : List UInt8) (at_ n : Int) (v : Nat) (s : List UInt8) (_hv : v < 4294967296) (w : World) (hG : G a w) (hA : Ar w p g L) :
    Calls Tryd.prog 16 #[ptr p, .agg #[.int .i64 3, .int .i64 at_, .int .i64 n, .int .u32 (v : Nat), .string ⟨s.toArray⟩]] w (Does g p w (.agg (doC L ⟨3, at_, n, v, s⟩)) (doL L ⟨3, at_, n, v, s⟩)) := by
  have M := Lib.hid (fun W (hW : Ext w W) => put_any (a := a) p g L at_ n W (hG.ext hW) (hA.ext hW))
  have hpl := hA.p.lt
  have hgl := hA.b.lt
  have hC : doC L ⟨3, at_, n, v, s⟩ = #[.int .i64 (0), .int .u32 (0 : Nat), .string ⟨([]).toArray⟩, .int .i64 (ptE L at_ n)] := by rfl
  have hD : doL L ⟨3, at_, n, v, s⟩ = ptL L at_ n := by rfl
  rw [hC, hD]
  clear hC hD
  generalize ptE L at_ n = E9 at *
  have hLL : True := trivial
  generalize ptL L at_ n = L9 at *
  clear hG hA
  go_enter Tryd.func16, Tryd.ntmps16
  go_wp2_with (first
    | (go_at_call 26; refine (M.out _ (ext3 w _ _ _)).mono ?_; rintro e w2 ⟨rfl, hc, hA2⟩; have b3 := (((Blk.new w #[.int .i64 3, .int .i64 at_, .int .i64 n, .int .u32 (v : Nat), .string ⟨s.toArray⟩] 39).alloc (.cells #[.int .i64 0, .int .u32 0, .string ⟨#[]⟩, .int .i64 0] 36)).alloc (.cells #[.int .i64 0, .int .u32 0, .string ⟨#[]⟩, .int .i64 0] 36)).chg hc (by omega); have b4 := ((at_newA w _ #[.int .i64 0, .int .u32 0, .string ⟨#[]⟩, .int .i64 0] 36).alloc (.cells #[.int .i64 0, .int .u32 0, .string ⟨#[]⟩, .int .i64 0] 36)).chg hc (by omega); have b5 := (at_newB w _ _ #[.int .i64 0, .int .u32 0, .string ⟨#[]⟩, .int .i64 0] 36).chg hc (by omega); have HZ := Lib.hid (And.intro ((Chg.of_ext (ext3 w _ _ _)).trans hc) hA2); clear hc hA2 b3; have r0 := b4.frozen 0; have r1 := b4.frozen 1; have r2 := b4.frozen 2; have r3 := b4.frozen 3; have q0 := b5.frozen 0; have q1 := b5.frozen 1; have q2 := b5.frozen 2; have q3 := b5.frozen 3; have d0 := b4.cell 0; have d1 := b4.cell 1; have d2 := b4.cell 2; have d3 := b4.cell 3; have c0 := b5.cell 0; have c1 := b5.cell 1; have c2 := b5.cell 2; have c3 := b5.cell 3; simp only [List.getElem?_toArray, List.getElem?_cons_zero, List.getElem?_cons_succ] at d0 d1 d2 d3 c0 c1 c2 c3))
  have f := ((((b4.other ⟨w.heap.size + 1 + 1, 3, none⟩ (.int .i64 E9) (by show w.heap.size + 1 ≠ w.heap.size + 1 + 1; omega)).set 0 (.int .i64 (0))).set 1 (.int .u32 ((0 : Nat) : Int))).set 2 (.string ⟨([]).toArray⟩)).set 3 (.int .i64 (E9))
  have e0 := f.cell 0
  have e1 := f.cell 1
  have e2 := f.cell 2
  have e3 := f.cell 3
  simp at e0 e1 e2 e3
  refine bodyPost_ret (v := .agg #[.int .i64 (0), .int .u32 ((0 : Nat) : Int), .string ⟨([]).toArray⟩, .int .i64 (E9)]) (by simp [results, Tryd.results16, go_sem, e0, e1, e2, e3]) rfl ⟨rfl, ?_, ?_⟩
  · repeat (refine Chg.setNew ?_ _ _ _ (by omega))
    exact HZ.out.1
  · repeat (refine Ar.setNew ?_ _ _ _ (by omega) (by omega))
    exact HZ.out.2
set_option maxHeartbeats 4000000 in
set_option maxRecDepth 100000 in
theorem do_4 (p g : Nat) (L : List UInt8) (at_ n : Int) (v : Nat) (s : List UInt8) (_hv : v < 4294967296) (w : World) (hG : G a w) (hA : Ar w p g L) :
    Calls Tryd.prog 16 #[ptr p, .agg #[.int .i64 4, .int .i64 at_, .int .i64 n, .int .u32 (v : Nat), .string ⟨s.toArray⟩]] w (Does g p w (.agg (doC L ⟨4, at_, n, v, s⟩)) (doL L ⟨4, at_, n, v, s⟩)) := by
  have M := Lib.hid (fun W (hW : Ext w W) => read_any (a := a) p g L at_ n W (hG.ext hW) (hA.ext hW))
  have hpl := hA.p.lt
  have hgl := hA.b.lt
  have hC : doC L ⟨4, at_, n, v, s⟩ = #[.int .i64 (0), .int .u32 (0 : Nat), .string ⟨(rdS L at_ n).toArray⟩, .int .i64 (rdE L at_ n)] := by rfl
  have hD : doL L ⟨4, at_, n, v, s⟩ = L := by rfl
  rw [hC, hD]
  clear hC hD
  generalize rdE L at_ n = E9 at *
  generalize rdS L at_ n = S9 at *
  clear hG hA
  go_enter Tryd.func16, Tryd.ntmps16
  go_wp2_with (first
    | (go_at_call 18; refine (M.out _ (ext3 w _ _ _)).mono ?_; rintro e w2 ⟨rfl, hc, hA2⟩; have b3 := (((Blk.new w #[.int .i64 4, .int .i64 at_, .int .i64 n, .int .u32 (v : Nat), .string ⟨s.toArray⟩] 39).alloc (.cells #[.int .i64 0, .int .u32 0, .string ⟨#[]⟩, .int .i64 0] 36)).alloc (.cells #[.int .i64 0, .int .u32 0, .string ⟨#[]⟩, .int .i64 0] 36)).chg hc (by omega); have b4 := ((at_newA w _ #[.int .i64 0, .int .u32 0, .string ⟨#[]⟩, .int .i64 0] 36).alloc (.cells #[.int .i64 0, .int .u32 0, .string ⟨#[]⟩, .int .i64 0] 36)).chg hc (by omega); have b5 := (at_newB w _ _ #[.int .i64 0, .int .u32 0, .string ⟨#[]⟩, .int .i64 0] 36).chg hc (by omega); have HZ := Lib.hid (And.intro ((Chg.of_ext (ext3 w _ _ _)).trans hc) hA2); clear hc hA2 b3; have r0 := b4.frozen 0; have r1 := b4.frozen 1; have r2 := b4.frozen 2; have r3 := b4.frozen 3; have q0 := b5.frozen 0; have q1 := b5.frozen 1; have q2 := b5.frozen 2; have q3 := b5.frozen 3; have d0 := b4.cell 0; have d1 := b4.cell 1; have d2 := b4.cell 2; have d3 := b4.cell 3; have c0 := b5.cell 0; have c1 := b5.cell 1; have c2 := b5.cell 2; have c3 := b5.cell 3; simp only [List.getElem?_toArray, List.getElem?_cons_zero, List.getElem?_cons_succ] at d0 d1 d2 d3 c0 c1 c2 c3))
  have f := (((((b4.other ⟨w.heap.size + 1 + 1, 2, none⟩ (.string ⟨(S9).toArray⟩) (by show w.heap.size + 1 ≠ w.heap.size + 1 + 1; omega)).other ⟨w.heap.size + 1 + 1, 3, none⟩ (.int .i64 E9) (by show w.heap.size + 1 ≠ w.heap.size + 1 + 1; omega)).set 0 (.int .i64 (0))).set 1 (.int .u32 ((0 : Nat) : Int))).set 2 (.string ⟨(S9).toArray⟩)).set 3 (.int .i64 (E9))
  have e0 := f.cell 0
  have e1 := f.cell 1
  have e2 := f.cell 2
  have e3 := f.cell 3
  simp at e0 e1 e2 e3
  refine bodyPost_ret (v := .agg #[.int .i64 (0), .int .u32 ((0 : Nat) : Int), .string ⟨(S9).toArray⟩, .int .i64 (E9)]) (by simp [results, Tryd.results16, go_sem, e0, e1, e2, e3]) rfl ⟨rfl, ?_, ?_⟩
  · repeat (refine Chg.setNew ?_ _ _ _ (by omega))
    exact HZ.out.1
  · repeat (refine Ar.setNew ?_ _ _ _ (by omega) (by omega))
    exact HZ.out.2
set_option maxHeartbeats 4000000 in
set_option maxRecDepth 100000 in
theorem do_5 (p g : Nat) (L : List UInt8) (at_ n : Int) (v : Nat) (s : List UInt8) (_hv : v < 4294967296) (w : World) (hG : G a w) (hA : Ar w p g L) :
    Calls Tryd.prog 16 #[ptr p, .agg #[.int .i64 5, .int .i64 at_, .int .i64 n, .int .u32 (v : Nat), .string ⟨s.toArray⟩]] w (Does g p w (.agg (doC L ⟨5, at_, n, v, s⟩)) (doL L ⟨5, at_, n, v, s⟩)) := by
  have M := Lib.hid (fun W (hW : Ext w W) => write_any (a := a) p g L at_ s W (hG.ext hW) (hA.ext hW))
  have hpl := hA.p.lt
  have hgl := hA.b.lt
  have hC : doC L ⟨5, at_, n, v, s⟩ = #[.int .i64 (0), .int .u32 (0 : Nat), .string ⟨([]).toArray⟩, .int .i64 (rdE L at_ s.length)] := by rfl
  have hD : doL L ⟨5, at_, n, v, s⟩ = wrL L at_ s := by rfl
  rw [hC, hD]
  clear hC hD
  generalize rdE L at_ s.length = E9 at *
  have hLL : True := trivial
  generalize wrL L at_ s = L9 at *
  clear hG hA
  go_enter Tryd.func16, Tryd.ntmps16
  go_wp2_with (first
    | (go_at_call 22; refine (M.out _ (ext3 w _ _ _)).mono ?_; rintro e w2 ⟨rfl, hc, hA2⟩; have b3 := (((Blk.new w #[.int .i64 5, .int .i64 at_, .int .i64 n, .int .u32 (v : Nat), .string ⟨s.toArray⟩] 39).alloc (.cells #[.int .i64 0, .int .u32 0, .string ⟨#[]⟩, .int .i64 0] 36)).alloc (.cells #[.int .i64 0, .int .u32 0, .string ⟨#[]⟩, .int .i64 0] 36)).chg hc (by omega); have b4 := ((at_newA w _ #[.int .i64 0, .int .u32 0, .string ⟨#[]⟩, .int .i64 0] 36).alloc (.cells #[.int .i64 0, .int .u32 0, .string ⟨#[]⟩, .int .i64 0] 36)).chg hc (by omega); have b5 := (at_newB w _ _ #[.int .i64 0, .int .u32 0, .string ⟨#[]⟩, .int .i64 0] 36).chg hc (by omega); have HZ := Lib.hid (And.intro ((Chg.of_ext (ext3 w _ _ _)).trans hc) hA2); clear hc hA2 b3; have r0 := b4.frozen 0; have r1 := b4.frozen 1; have r2 := b4.frozen 2; have r3 := b4.frozen 3; have q0 := b5.frozen 0; have q1 := b5.frozen 1; have q2 := b5.frozen 2; have q3 := b5.frozen 3; have d0 := b4.cell 0; have d1 := b4.cell 1; have d2 := b4.cell 2; have d3 := b4.cell 3; have c0 := b5.cell 0; have c1 := b5.cell 1; have c2 := b5.cell 2; have c3 := b5.cell 3; simp only [List.getElem?_toArray, List.getElem?_cons_zero, List.getElem?_cons_succ] at d0 d1 d2 d3 c0 c1 c2 c3))
  have f := ((((b4.other ⟨w.heap.size + 1 + 1, 3, none⟩ (.int .i64 E9) (by show w.heap.size + 1 ≠ w.heap.size + 1 + 1; omega)).set 0 (.int .i64 (0))).set 1 (.int .u32 ((0 : Nat) : Int))).set 2 (.string ⟨([]).toArray⟩)).set 3 (.int .i64 (E9))
  have e0 := f.cell 0
  have e1 := f.cell 1
  have e2 := f.cell 2
  have e3 := f.cell 3
  simp at e0 e1 e2 e3
  refine bodyPost_ret (v := .agg #[.int .i64 (0), .int .u32 ((0 : Nat) : Int), .string ⟨([]).toArray⟩, .int .i64 (E9)]) (by simp [results, Tryd.results16, go_sem, e0, e1, e2, e3]) rfl ⟨rfl, ?_, ?_⟩
  · repeat (refine Chg.setNew ?_ _ _ _ (by omega))
    exact HZ.out.1
  · repeat (refine Ar.setNew ?_ _ _ _ (by omega) (by omega))
    exact HZ.out.2
set_option maxHeartbeats 4000000 in
set_option maxRecDepth 100000 in
theorem do_6 (p g : Nat) (L : List UInt8) (at_ n : Int) (v : Nat) (s : List UInt8) (_hv : v < 4294967296) (w : World) (hG : G a w) (hA : Ar w p g L) :
    Calls Tryd.prog 16 #[ptr p, .agg #[.int .i64 6, .int .i64 at_, .int .i64 n, .int .u32 (v : Nat), .string ⟨s.toArray⟩]] w (Does g p w (.agg (doC L ⟨6, at_, n, v, s⟩)) (doL L ⟨6, at_, n, v, s⟩)) := by
  have M := Lib.hid (fun W (hW : Ext w W) => zero_any (a := a) p g L at_ n W (hG.ext hW) (hA.ext hW))
  have hpl := hA.p.lt
  have hgl := hA.b.lt
  have hC : doC L ⟨6, at_, n, v, s⟩ = #[.int .i64 (0), .int .u32 (0 : Nat), .string ⟨([]).toArray⟩, .int .i64 (rdE L at_ n)] := by rfl
  have hD : doL L ⟨6, at_, n, v, s⟩ = zrL L at_ n := by rfl
  rw [hC, hD]
  clear hC hD
  generalize rdE L at_ n = E9 at *
  have hLL : True := trivial
  generalize zrL L at_ n = L9 at *
  clear hG hA
  go_enter Tryd.func16, Tryd.ntmps16
  go_wp2_with (first
    | (go_at_call 15; refine (M.out _ (ext3 w _ _ _)).mono ?_; rintro e w2 ⟨rfl, hc, hA2⟩; have b3 := (((Blk.new w #[.int .i64 6, .int .i64 at_, .int .i64 n, .int .u32 (v : Nat), .string ⟨s.toArray⟩] 39).alloc (.cells #[.int .i64 0, .int .u32 0, .string ⟨#[]⟩, .int .i64 0] 36)).alloc (.cells #[.int .i64 0, .int .u32 0, .string ⟨#[]⟩, .int .i64 0] 36)).chg hc (by omega); have b4 := ((at_newA w _ #[.int .i64 0, .int .u32 0, .string ⟨#[]⟩, .int .i64 0] 36).alloc (.cells #[.int .i64 0, .int .u32 0, .string ⟨#[]⟩, .int .i64 0] 36)).chg hc (by omega); have b5 := (at_newB w _ _ #[.int .i64 0, .int .u32 0, .string ⟨#[]⟩, .int .i64 0] 36).chg hc (by omega); have HZ := Lib.hid (And.intro ((Chg.of_ext (ext3 w _ _ _)).trans hc) hA2); clear hc hA2 b3; have r0 := b4.frozen 0; have r1 := b4.frozen 1; have r2 := b4.frozen 2; have r3 := b4.frozen 3; have q0 := b5.frozen 0; have q1 := b5.frozen 1; have q2 := b5.frozen 2; have q3 := b5.frozen 3; have d0 := b4.cell 0; have d1 := b4.cell 1; have d2 := b4.cell 2; have d3 := b4.cell 3; have c0 := b5.cell 0; have c1 := b5.cell 1; have c2 := b5.cell 2; have c3 := b5.cell 3; simp only [List.getElem?_toArray, List.getElem?_cons_zero, List.getElem?_cons_succ] at d0 d1 d2 d3 c0 c1 c2 c3))
  have f := ((((b4.other ⟨w.heap.size + 1 + 1, 3, none⟩ (.int .i64 E9) (by show w.heap.size + 1 ≠ w.heap.size + 1 + 1; omega)).set 0 (.int .i64 (0))).set 1 (.int .u32 ((0 : Nat) : Int))).set 2 (.string ⟨([]).toArray⟩)).set 3 (.int .i64 (E9))
  have e0 := f.cell 0
  have e1 := f.cell 1
  have e2 := f.cell 2
  have e3 := f.cell 3
  simp at e0 e1 e2 e3
  refine bodyPost_ret (v := .agg #[.int .i64 (0), .int .u32 ((0 : Nat) : Int), .string ⟨([]).toArray⟩, .int .i64 (E9)]) (by simp [results, Tryd.results16, go_sem, e0, e1, e2, e3]) rfl ⟨rfl, ?_, ?_⟩
  · repeat (refine Chg.setNew ?_ _ _ _ (by omega))
    exact HZ.out.1
  · repeat (refine Ar.setNew ?_ _ _ _ (by omega) (by omega))
    exact HZ.out.2
set_option maxHeartbeats 4000000 in
set_option maxRecDepth 100000 in
theorem do_no (p g : Nat) (L : List UInt8) (k : Int) (hk : k ≠ 0 ∧ k ≠ 1 ∧ k ≠ 2 ∧ k ≠ 3 ∧ k ≠ 4 ∧ k ≠ 5 ∧ k ≠ 6) (at_ n : Int) (v : Nat) (s : List UInt8) (_hv : v < 4294967296) (w : World) (_hG : G a w) (hA : Ar w p g L) :
    Calls Tryd.prog 16 #[ptr p, .agg #[.int .i64 k, .int .i64 at_, .int .i64 n, .int .u32 (v : Nat), .string ⟨s.toArray⟩]] w (Does g p w (.agg (doC L ⟨k, at_, n, v, s⟩)) (doL L ⟨k, at_, n, v, s⟩)) := by
  have hpl := hA.p.lt
  have hgl := hA.b.lt
  have hC : doC L ⟨k, at_, n, v, s⟩ = #[.int .i64 (0), .int .u32 (0 : Nat), .string ⟨([]).toArray⟩, .int .i64 (0)] := by simp [doC, doN, doV, doS, doE, hk]
  have hD : doL L ⟨k, at_, n, v, s⟩ = L := by simp [doL, hk]
  rw [hC, hD]
  clear hC hD
  have k0 : (k == 0) = false := by simp; omega
  have k1 : (k == 1) = false := by simp; omega
  have k2 : (k == 2) = false := by simp; omega
  have k3 : (k == 3) = false := by simp; omega
  have k4 : (k == 4) = false := by simp; omega
  have k5 : (k == 5) = false := by simp; omega
  have k6 : (k == 6) = false := by simp; omega
  clear hk
  have A0 := Lib.hid hA
  clear _hG hA
  go_enter Tryd.func16, Tryd.ntmps16
  go_wp2
  have f := (at_newA w (.cells #[.int .i64 k, .int .i64 at_, .int .i64 n, .int .u32 (v : Nat), .string ⟨s.toArray⟩] 39) #[.int .i64 0, .int .u32 0, .string ⟨#[]⟩, .int .i64 0] 36).alloc (.cells #[.int .i64 0, .int .u32 0, .string ⟨#[]⟩, .int .i64 0] 36)
  have e0 := f.cell 0
  have e1 := f.cell 1
  have e2 := f.cell 2
  have e3 := f.cell 3
  simp only [List.getElem?_toArray, List.getElem?_cons_zero, List.getElem?_cons_succ] at e0 e1 e2 e3
  exact bodyPost_ret (v := .agg #[.int .i64 0, .int .u32 ((0 : Nat) : Int), .string ⟨#[]⟩, .int .i64 0]) (by simp [results, Tryd.results16, go_sem, e0, e1, e2, e3]) rfl ⟨rfl, Chg.of_ext (ext3 w _ _ _), A0.out.ext (ext3 w _ _ _)⟩
theorem do_any (p g : Nat) (L : List UInt8) (x : OpR) (hv : x.v < 4294967296) (w : World) (hG : G a w) (hA : Ar w p g L) :
    Calls Tryd.prog 16 #[ptr p, .agg x.cells] w (Does g p w (.agg (doC L x)) (doL L x)) := by
  obtain ⟨k, at_, n, v, s⟩ := x
  by_cases h0 : k = 0
  · subst h0; exact do_0 p g L at_ n v s hv w hG hA
  by_cases h1 : k = 1
  · subst h1; exact do_1 p g L at_ n v s hv w hG hA
  by_cases h2 : k = 2
  · subst h2; exact do_2 p g L at_ n v s hv w hG hA
  by_cases h3 : k = 3
  · subst h3; exact do_3 p g L at_ n v s hv w hG hA
  by_cases h4 : k = 4
  · subst h4; exact do_4 p g L at_ n v s hv w hG hA
  by_cases h5 : k = 5
  · subst h5; exact do_5 p g L at_ n v s hv w hG hA
  by_cases h6 : k = 6
  · subst h6; exact do_6 p g L at_ n v s hv w hG hA
  exact do_no p g L k ⟨h0, h1, h2, h3, h4, h5, h6⟩ at_ n v s hv w hG hA
end
end Go.Proofs.YtmehoieijelncaaDoor
