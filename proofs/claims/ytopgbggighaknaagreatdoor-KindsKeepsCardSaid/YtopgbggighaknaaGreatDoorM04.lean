/- Joined texts, in their order: By, Draw3. -/
import Derived.Test.YtopgbggighaknaaGreatDoorM01
import Derived.Laws.CopyOwn
import Derived.Laws.IdiomStrings
import Derived.Lib.Hide
import Derived.Test.YtopgbggighaknaaGreatDoorM03
/- Rows of bytes: a change of one block, copy of a text into a row, clear, the text of a row's part. -/
namespace Go.Proofs.YtopgbggighaknaaGreatDoor
open Go.RowKit Go

/-- Of the blocks that were there all but g lie as they lay. -/
structure Chg (g : Nat) (w w' : World) : Prop where
  os : w'.os = w.os
  tape : w'.tape = w.tape
  output : w'.output = w.output
  size : w.heap.size ≤ w'.heap.size
  block : ∀ k, k < w.heap.size → k ≠ g → w'.heap[k]? = w.heap[k]?
theorem Chg.refl (g : Nat) (w : World) : Chg g w w := ⟨rfl, rfl, rfl, Nat.le_refl _, fun _ _ _ => rfl⟩
theorem Chg.trans {g : Nat} {a b c : World} (h : Chg g a b) (k : Chg g b c) : Chg g a c :=
  ⟨k.os.trans h.os, k.tape.trans h.tape, k.output.trans h.output, Nat.le_trans h.size k.size, fun i hi hn => (k.block i (Nat.lt_of_lt_of_le hi h.size) hn).trans (h.block i hi hn)⟩
theorem Chg.of_ext {g : Nat} {a b : World} (h : Ext a b) : Chg g a b := ⟨h.os, h.tape, h.output, h.size, fun i hi _ => h.block i hi⟩
theorem Chg.ext {g : Nat} {a b c : World} (h : Chg g a b) (k : Ext b c) : Chg g a c := h.trans (.of_ext k)
theorem Chg.setCell {g : Nat} {a b : World} (h : Chg g a b) (o : Nat) (v : Value) : Chg g a (b.setCell ⟨g, o, none⟩ v) :=
  h.trans ⟨rfl, rfl, rfl, by simp [World.setCell], fun i _ hn => Below.heap_setCell _ _ _ _ hn⟩
theorem Chg.setRow (g : Nat) (w : World) (cs : Array Value) : Chg g w (w.setRow g cs) :=
  ⟨rfl, rfl, rfl, by simp [World.setRow], fun k _ hn => setRow_other w g k cs hn⟩
/-- A change of a block that is one's own is none of what was there. -/
theorem Chg.below {B g : Nat} {a b c : World} (h : Below B a b) (k : Chg g b c) (hB : B ≤ b.heap.size) (hg : B ≤ g) : Below B a c :=
  h.trans ⟨k.os, k.tape, k.output, k.size, fun i hi => k.block i (by omega) (by omega)⟩
theorem Blk.chg {g B : Nat} {W W' : World} {cs : Array Value} {t : TypeId} (h : Blk W B cs t) (k : Chg g W W') (hn : B ≠ g) : Blk W' B cs t := (k.block B h.lt hn).trans h
theorem Chg.cell {g : Nat} {a b : World} (h : Chg g a b) {p : Addr} (hp : p.block < a.heap.size) (hn : p.block ≠ g) : b.cell? p = a.cell? p := World.cell?_of_block (w := a) (h.block p.block hp hn)

def bv (b : UInt8) : Value := .int .u8 (b.toNat : Int)
def bts (L : List UInt8) : Array Value := (L.map bv).toArray
theorem bts_size (L : List UInt8) : (bts L).size = L.length := by simp [bts]
theorem bts_get (L : List UInt8) (i : Nat) (h : i < L.length) : (bts L)[i]? = some (bv (L.getD i 0)) := by
  simp [bts, List.getElem?_eq_getElem h, List.getD]
theorem bts_get' (L : List UInt8) (i : Nat) (h : i < L.length) : (bts L)[i]? = some (.int .u8 ((L.getD i 0).toNat : Int)) := bts_get L i h
/-- L, with S laid over it from off on. -/
def lay (L : List UInt8) (off : Nat) (S : List UInt8) : List UInt8 := splice L off S
theorem lay_len (L : List UInt8) (off : Nat) (S : List UInt8) (h : off + S.length ≤ L.length) : (lay L off S).length = L.length := length_splice L off S h
theorem lay_get (L : List UInt8) (off : Nat) (S : List UInt8) (h : off + S.length ≤ L.length) (i : Nat) : (lay L off S).getD i 0 = if off ≤ i ∧ i < off + S.length then S.getD (i - off) 0 else L.getD i 0 := by
  have hl : (L.take off).length = off := by simp; omega
  unfold lay splice
  simp only [List.getD]
  by_cases h1 : i < off
  · rw [List.getElem?_append_left (by omega), List.getElem?_take, if_pos h1, if_neg (by omega)]
  · rw [List.getElem?_append_right (by omega), hl]
    by_cases h2 : i < off + S.length
    · rw [List.getElem?_append_left (by omega), if_pos (by omega)]
    · rw [List.getElem?_append_right (by omega), List.getElem?_drop, if_neg (by omega), show off + S.length + (i - off - S.length) = i by omega]
theorem lay_nil (L : List UInt8) (off : Nat) : lay L off [] = L := by simp [lay, splice]
theorem bts_set (L : List UInt8) (i : Nat) (b : UInt8) : (bts L).setIfInBounds i (.int .u8 (b.toNat : Int)) = bts (L.set i b) := by
  apply Array.ext'
  simp only [Array.toList_setIfInBounds, bts, List.map_set]
  rfl
theorem bts_lay (L : List UInt8) (off : Nat) (S : List UInt8) : ((bts L).toList.take off ++ S.map bv ++ (bts L).toList.drop (off + (S.map bv).length)).toArray = bts (lay L off S) := by
  simp [bts, lay, splice, List.map_take, List.map_drop]

theorem run_copy_text {P : Program} (w : World) (dT sT ty elem : TypeId) (g o dCap : Nat) (S L : List UInt8) (t : TypeId) (hu : P.underlying dT = some (.slice elem)) (hs : (P.info? elem).map (·.size) = some 1)
    (hg : Blk w g (bts L) t) (hfit : o + S.length ≤ L.length) :
    (Builtin.copy_ #[dT, sT] ty #[.slice (some ⟨g, o, none⟩) S.length dCap, .string ⟨S.toArray⟩]).run P w = .ok (goInt S.length) (w.setRow g (bts (lay L o S))) := by
  have hst := run_storeCells_at P g o t (S.map bv) 0 (bts L) w hg (by simpa [bts] using hfit) (by intro v hv; obtain ⟨b, _, rfl⟩ := List.mem_map.1 hv; rfl)
  rw [Nat.add_zero, bts_lay] at hst
  have e1 : (⟨S.toArray⟩ : ByteArray).size = S.length := by simp [ByteArray.size]
  cases hq : P.info? elem with
  | none => simp [hq] at hs
  | some i =>
    have hi : i.size = 1 := by simpa [hq] using hs
    simp [Builtin.copy_, run_underlying hu, Builtin.lenOf, Builtin.firstCells, sizeOf, typeInfo, hq, e1]
    rw [show List.take S.length (List.map (fun b => Value.int IntKind.u8 (b.toNat : Int)) S) = S.map bv by rw [List.take_of_length_le (by simp)]; rfl, hst]
    rfl

theorem run_clear_bytes {P : Program} (w : World) (dT ty elem : TypeId) (g o n dCap : Nat) (L : List UInt8) (t : TypeId) (hu : P.underlying dT = some (.slice elem)) (hz : (P.info? elem).map (·.zero) = some (some (.int .u8 0)))
    (hg : Blk w g (bts L) t) (hn : 0 < n) (hfit : o + n ≤ L.length) :
    (Builtin.clear_ #[dT] ty #[.slice (some ⟨g, o, none⟩) n dCap]).run P w = .ok (.tuple #[]) (w.setRow g (bts (lay L o (List.replicate n 0)))) := by
  have hst := run_storeCells_at P g o t ((List.replicate n (0 : UInt8)).map bv) 0 (bts L) w hg (by simpa [bts] using hfit) (by intro v hv; obtain ⟨b, _, rfl⟩ := List.mem_map.1 hv; rfl)
  rw [Nat.add_zero, bts_lay] at hst
  have e2 : (Builtin.zeroCells #[Value.int .u8 0] n).toList = (List.replicate n (0 : UInt8)).map bv := by
    apply List.ext_getElem?
    intro j
    by_cases hj : j < n
    · simp [Builtin.zeroCells, hj, bv, Nat.mod_one]
    · simp [Builtin.zeroCells, hj]
  cases hq : P.info? elem with
  | none => simp [hq] at hz
  | some i =>
    have hi : i.zero = some (.int .u8 0) := by simpa [hq] using hz
    obtain ⟨m, rfl⟩ : ∃ m, n = m + 1 := ⟨n - 1, by omega⟩
    have hc : (Value.int .u8 0).cells = #[Value.int .u8 0] := rfl
    rw [List.map_replicate] at e2 hst
    simp [Builtin.clear_, run_underlying hu, zeroValue, typeInfo, hq, hi, hc, e2]
    rw [hst]
    rfl

/-- .. as an equation to be laid ahead of the walk. -/
theorem copy_text_some {P : Program} (w : World) (dT sT elem : TypeId) (hu : P.underlying dT = some (.slice elem)) (hsz : (P.info? elem).map (·.size) = some 1)
    (dp : Option Addr) (dLen dCap : Nat) (S L : List UInt8) (hn : dLen = S.length) (g off : Nat) (t : TypeId) (hg : Blk w g (bts L) t) (hpos : 0 < S.length → dp = some ⟨g, off, none⟩) (hfit : off + S.length ≤ L.length) :
    ∃ w', (∀ ty, (Builtin.copy_ #[dT, sT] ty #[.slice dp dLen dCap, .string ⟨S.toArray⟩]).run P w = .ok (goInt S.length) w') ∧ Chg g w w' ∧ Blk w' g (bts (lay L off S)) t := by
  subst hn
  by_cases h0 : S = []
  · subst h0
    refine ⟨w, fun ty => ?_, Chg.refl g w, by rw [lay_nil]; exact hg⟩
    have hz : (⟨(([] : List UInt8)).toArray⟩ : ByteArray) = ByteArray.empty := rfl
    rw [hz]
    cases hq : P.info? elem with
    | none => simp [hq] at hsz
    | some i => cases dp <;> simp [Builtin.copy_, run_underlying hu, Builtin.lenOf, Builtin.firstCells, sizeOf, typeInfo, hq, storeCells]
  · have hp := hpos (by cases S <;> simp_all)
    subst hp
    exact ⟨_, fun ty => run_copy_text (P := P) w dT sT ty elem g off dCap S L t hu hsz hg hfit, Chg.setRow g w _, setRow_heap w g _ _ t _ hg⟩
theorem clear_some {P : Program} (w : World) (dT elem : TypeId) (hu : P.underlying dT = some (.slice elem)) (hz : (P.info? elem).map (·.zero) = some (some (.int .u8 0)))
    (dp : Option Addr) (n dCap : Nat) (L : List UInt8) (g off : Nat) (t : TypeId) (hg : Blk w g (bts L) t) (hpos : 0 < n → dp = some ⟨g, off, none⟩) (hfit : off + n ≤ L.length) :
    ∃ w', (∀ ty, (Builtin.clear_ #[dT] ty #[.slice dp n dCap]).run P w = .ok (.tuple #[]) w') ∧ Chg g w w' ∧ Blk w' g (bts (lay L off (List.replicate n 0))) t := by
  by_cases h0 : n = 0
  · subst h0
    refine ⟨w, fun ty => ?_, Chg.refl g w, by rw [List.replicate_zero, lay_nil]; exact hg⟩
    cases dp <;> simp [Builtin.clear_, run_underlying hu]
  · have hp := hpos (by omega)
    subst hp
    exact ⟨_, fun ty => run_clear_bytes (P := P) w dT ty elem g off n dCap L t hu hz hg (by omega) hfit, Chg.setRow g w _, setRow_heap w g _ _ t _ hg⟩

/-- n bytes of L from off on. -/
def cut (L : List UInt8) (off n : Nat) : List UInt8 := (L.drop off).take n
theorem cut_len (L : List UInt8) (off n : Nat) (h : off + n ≤ L.length) : (cut L off n).length = n := by simp [cut]; omega
theorem cut_get (L : List UInt8) (off n i : Nat) (h : i < n) : (cut L off n).getD i 0 = L.getD (off + i) 0 := by
  simp [cut, List.getD, h]
theorem run_text_of {P : Program} (w : World) (src dst e : TypeId) (dp : Option Addr) (dCap n off g : Nat) (L : List UInt8) (t : TypeId) (hs : P.underlying src = some (.slice e)) (he : P.underlying e = some (.int .u8)) (hd : P.underlying dst = some .string)
    (hg : Blk w g (bts L) t) (hpos : 0 < n → dp = some ⟨g, off, none⟩) (hfit : off + n ≤ L.length) :
    (convert src dst (.slice dp n dCap)).run P w = .ok (.string ⟨(cut L off n).toArray⟩) w := by
  by_cases h0 : n = 0
  · subst h0
    have hl : ∀ (x : Addr), (loadCells x 0).run P w = .ok #[] w := fun x => by simpa using run_loadCells_list (P := P) w x [] (by simp)
    rw [run_convert_bytes_string w src dst e dp 0 dCap hs he hd]
    cases dp with
    | none => simp [Conv.bytesToString, cut]; rfl
    | some x => simp [Conv.bytesToString, cut, hl]; rfl
  · have hp := hpos (by omega)
    subst hp
    have hl := cut_len L off n hfit
    have := run_convert_bytes_back (P := P) w src dst e ⟨g, off, none⟩ dCap (cut L off n) hs he hd (fun j hj => by
      have e : (⟨g, off, none⟩ : Addr).add j = ⟨g, off + j, none⟩ := by unfold Addr.add; by_cases h0 : j = 0 <;> simp [h0]
      rw [e, hg.cell, bts_get' L _ (by omega)]
      have := cut_get L off n j (by omega)
      rw [List.getD, List.getElem?_eq_getElem hj] at this
      simp at this
      rw [this]
      rfl)
    rw [hl] at this
    exact this
end Go.Proofs.YtopgbggighaknaaGreatDoor
/- Regions that draw, as in XDraw2; here an operation may also turn some blocks that stood ahead of the region (made by gen_drawf.py). -/
namespace Go.Proofs.YtopgbggighaknaaGreatDoor
namespace F
open Go Go.RowKit
/-- Which blocks may turn. -/
class Free where
  D : Nat → Prop
structure ExtF [Free] (w w' : World) : Prop where
  os : w'.os = w.os
  tape : w'.tape = w.tape
  output : w'.output = w.output
  size : w.heap.size ≤ w'.heap.size
  block : ∀ k, k < w.heap.size → ¬ Free.D k → w'.heap[k]? = w.heap[k]?
variable [Free]
theorem ExtF.refl (w : World) : ExtF w w := ⟨rfl, rfl, rfl, Nat.le_refl _, fun _ _ _ => rfl⟩
theorem ExtF.trans {a b c : World} (h : ExtF a b) (k : ExtF b c) : ExtF a c :=
  ⟨k.os.trans h.os, k.tape.trans h.tape, k.output.trans h.output, Nat.le_trans h.size k.size, fun i hi hn => (k.block i (Nat.lt_of_lt_of_le hi h.size) hn).trans (h.block i hi hn)⟩
theorem ExtF.of_ext {a b : World} (h : Ext a b) : ExtF a b := ⟨h.os, h.tape, h.output, h.size, fun i hi _ => h.block i hi⟩
theorem ExtF.of_chg {g : Nat} (hg : Free.D g) {a b : World} (h : Chg g a b) : ExtF a b := ⟨h.os, h.tape, h.output, h.size, fun i hi hn => h.block i hi (fun e => hn (e ▸ hg))⟩
theorem ExtF.cell {a b : World} (h : ExtF a b) {p : Addr} (hp : p.block < a.heap.size) (hn : ¬ Free.D p.block) : b.cell? p = a.cell? p := World.cell?_of_block (w := a) (h.block p.block hp hn)
structure FromF (b : World) where
  w : World
  h : ExtF b w
section
variable {P : Program} {ops : Array Oper} {md : Region.Mode}
/-- In every world on from b operation o yields v, and leaves a world on from there. -/
def YieldsR (P : Program) (ops : Array Oper) (b : World) (o : Oper) (v : Value) (a : Act) : Prop :=
  (Region.wanted o (yielded ops a.tmps) = true ∧ ∀ W, ExtF b W → o.quietAt P a (Ext W) W v) ∨ (Region.wanted o (yielded ops a.tmps) = false ∧ v = undef)
theorem YieldsR.of_same {b : World} {o : Oper} {v : Value} {a a' : Act} (hy : YieldsR P ops b o v a) (he : execOp a'.eval o = execOp a.eval o)
    (hw : Region.wanted o (yielded ops a'.tmps) = Region.wanted o (yielded ops a.tmps)) : YieldsR P ops b o v a' := by
  unfold YieldsR Oper.quietAt at *
  rw [he, hw]
  exact hy
theorem YieldsR.op {b W : World} {i : Nat} {o : Oper} {v : Value} {a : Act} (hi : ops[i]? = some o) (hy : YieldsR P ops b o v a) (hW : ExtF b W) {K : Act → World → Prop} (h : ∀ W', Ext W W' → K (a.put o.dst v) W') : wpOp P ops NoQ i K a W := by
  unfold Go.wpOp
  simp only [hi]
  rcases hy with ⟨hw, hv⟩ | ⟨hw, rfl⟩
  · simp only [hw, if_true]
    refine .inl ?_
    have h3 := hv W hW
    unfold Oper.quietAt at h3
    unfold Oper.wp
    generalize (execOp a.eval o).run P W = r at *
    cases r with
    | ok n w' =>
      cases n <;> simp only [Oper.quietUpon] at h3 <;> simp only [Oper.upon]
      case value u => obtain ⟨e1, e2⟩ := h3; rw [e1, e2]; exact h _ (Ext.refl _)
      case skip => obtain ⟨e1, e2⟩ := h3; rw [e1, ← e2]; exact h _ (Ext.refl _)
      case enter f args =>
        obtain ⟨e1, hc⟩ := h3
        rw [e1]
        exact hc.mono fun e w'' ⟨he, hw''⟩ => by subst he; exact h _ hw''
    | halt x w' => simp only [Oper.quietUpon] at h3
  · simp only [hw, Bool.false_eq_true, if_false]; exact h _ (Ext.refl _)

theorem wpOp_putR {j : Nat} {oi oj : Oper} {v : Value} {b : World} (hj : ops[j]? = some oj) (hap : oi.apart ops oj = true)
    (hsi : ∀ cs b, oi.op ≠ .select cs b) (hsj : ∀ cs b, oj.op ≠ .select cs b) {K : Act → World → Prop} {a : Act} {w : World}
    (hy : YieldsR P ops b oi v a) (h : wpOp P ops NoQ j K (a.put oi.dst v) w) :
    wpOp P ops NoQ j (fun a' w' => YieldsR P ops b oi v a' ∧ K (a'.put oi.dst v) w') a w := by
  obtain ⟨h1, h2, h3⟩ := Oper.apart_spec hap
  have keep : ∀ (a : Act), YieldsR P ops b oi v a → ∀ u, YieldsR P ops b oi v (a.put oj.dst u) := fun a hy u =>
    hy.of_same (execOp_put oi hsi a oj.dst u h3) (wanted_put oi a oj.dst u h3)
  have keepD : ∀ d, YieldsR P ops b oi v { a with defers := d :: a.defers } := fun d => hy.of_same rfl rfl
  unfold wpOp at *
  simp only [hj] at *
  rw [wanted_put oj a oi.dst v h1] at h
  split
  · rename_i hw
    simp only [hw, if_true] at h
    rcases h with h | ⟨_, hlets⟩
    case inr => exact (noQ_out hlets).elim
    refine .inl ?_
    unfold Oper.wp at *
    rw [execOp_put oj hsj a oi.dst v h1] at h
    generalize (execOp a.eval oj).run P w = r at *
    cases r with
    | ok n w' =>
      cases n <;> simp only [Oper.upon] at h ⊢
      case value u => exact ⟨keep a hy u, by rw [← Act.put_comm a v u h2]; exact h⟩
      case skip => exact ⟨keep a hy _, by rw [← Act.put_comm a v undef h2]; exact h⟩
      case defer d =>
        refine ⟨keep _ (keepD d) _, ?_⟩
        rw [← Act.put_comm _ v undef h2, ← Act.put_defers]
        exact h
      case enter f args =>
        refine Calls.mono h fun e w'' he => ?_
        cases e with
        | returned u => exact ⟨keep a hy u, by rw [← Act.put_comm a v u h2]; exact he⟩
        | panicked c => exact (he : False).elim
        | outgrown => exact (noQ_out he).elim
      case row row args => exact Rows.mono h fun u w'' he => ⟨keep a hy u, by rw [← Act.put_comm a v u h2]; exact he⟩
    | halt x w' => cases x <;> simp only [Oper.upon] at h ⊢ <;> exact (h : False).elim
  · rename_i hw
    simp only [hw] at h
    exact ⟨keep a hy _, by rw [← Act.put_comm a v undef h2]; exact h⟩

/-- The head of a region, in whatever order, on from b; then L. -/
def wpX2 (P : Program) (md : Region.Mode) (ops : Array Oper) (n : Nat) (L : Array Bool → Act → World → Prop) (b0 : World) : Nat → World → Array Bool → Act → Prop
  | 0, b, listed, a => ∀ W, Ext b W → L listed a W
  | f + 1, b, listed, a => Region.ready md ops listed ≠ [] ∧ ∀ i ∈ Region.ready md ops listed, i < n ∧ ∀ W, Ext b W → wpOp P ops NoQ i (fun a' W' => ExtF b0 W' ∧ wpX2 P md ops n L b0 f W' (listed.setIfInBounds i true) a') a W
theorem wpX2_mono {n : Nat} {L : Array Bool → Act → World → Prop} {b0 : World} : ∀ {f : Nat} {b c : World} {listed : Array Bool} {a : Act}, wpX2 P md ops n L b0 f b listed a → Ext b c → wpX2 P md ops n L b0 f c listed a
  | 0, _, _, _, _, h, hc => fun W hW => h W (hc.trans hW)
  | _ + 1, _, _, _, _, h, hc => ⟨h.1, fun i hi => ⟨(h.2 i hi).1, fun W hW => (h.2 i hi).2 W (hc.trans hW)⟩⟩
theorem wpAny_of_X2 {n g : Nat} {L : Array Bool → Act → World → Prop} {b0 : World} {Q : Exit → Act → World → Prop} (hL : ∀ listed a W, L listed a W → wpAny P md ops Q g listed a W) :
    ∀ (f : Nat) (b : World) (listed : Array Bool) (a : Act) (W : World), Ext b W → wpX2 P md ops n L b0 f b listed a → wpAny P md ops Q (f + g) listed a W
  | 0, b, listed, a, W, hW, h => by rw [Nat.zero_add]; exact hL _ _ _ (h W hW)
  | f + 1, b, listed, a, W, hW, h => by
    rw [show f + 1 + g = (f + g) + 1 by omega]
    exact ⟨fun h0 => absurd h0 h.1, fun i hi => wpOp_mono (fun a' W' h' => wpAny_of_X2 hL f _ _ a' W' (Ext.refl _) h'.2) (wpOp_noQ ((h.2 i hi).2 W hW))⟩
theorem wpX2_first {b0 : World} {n i : Nat} {oi : Oper} {v : Value} {L : Array Bool → Act → World → Prop} (hi : ops[i]? = some oi) (hsel : ∀ (j : Nat) (o : Oper) cs b, ops[j]? = some o → o.op ≠ .select cs b)
    (hT : TailWaits md ops n) (hin : i < n) (hdone : ∀ listed a W, L listed a W → ∀ j ∈ Region.ready md ops listed, n ≤ j) :
    ∀ (f : Nat) (b : World) (listed : Array Bool) (a : Act), ExtF b0 b → HeadInv md ops n listed →
      (∀ j oj, ops[j]? = some oj → j ≠ i → listed.getD j true = false → (∀ e ∈ oj.after, Region.binds md e = true → e.on ≠ i) → oi.apart ops oj = true) →
      i ∈ Region.ready md ops listed → YieldsR P ops b0 oi v a →
      wpX2 P md ops n L b0 f b (listed.setIfInBounds i true) (a.put oi.dst v) → wpX2 P md ops n L b0 (f + 1) b listed a := by
  intro f
  induction f with
  | zero =>
    intro b listed a hb inv _ hr hy H
    have hun := (mem_ready.1 hr).1
    refine ⟨fun h => (by rw [h] at hr; cases hr), fun j hj => ?_⟩
    have hjn : j < n := by
      rcases Nat.lt_or_ge j n with h | h
      · exact h
      · exact absurd hj (hT _ inv i hin hun j h)
    refine ⟨hjn, fun W hW => ?_⟩
    by_cases hji : j = i
    · subst hji; exact hy.op hi (hb.trans (.of_ext hW)) (fun W' hW' => ⟨hb.trans (.of_ext (hW.trans hW')), wpX2_mono H (hW.trans hW')⟩)
    · have := hdone _ _ _ (H W hW) j (ready_mono hj hji)
      omega
  | succ f ih =>
    intro b listed a hb inv hfree hr hy H
    have hun := (mem_ready.1 hr).1
    refine ⟨fun h => (by rw [h] at hr; cases hr), fun j hj => ?_⟩
    have hjn : j < n := by
      rcases Nat.lt_or_ge j n with h | h
      · exact h
      · exact absurd hj (hT _ inv i hin hun j h)
    refine ⟨hjn, fun W hW => ?_⟩
    by_cases hji : j = i
    · subst hji; exact hy.op hi (hb.trans (.of_ext hW)) (fun W' hW' => ⟨hb.trans (.of_ext (hW.trans hW')), wpX2_mono H (hW.trans hW')⟩)
    · have h1 := (H.2 j (ready_mono hj hji)).2 W hW
      obtain ⟨hjun, oj, hoj, hall⟩ := mem_ready.1 hj
      have hnot : ∀ e ∈ oj.after, Region.binds md e = true → e.on ≠ i := fun e he hb heq => by
        have h1 := hall e he hb
        rw [heq, getD_both hun] at h1
        cases h1
      have h2 := wpOp_putR hoj (hfree j oj hoj hji hjun hnot) (fun cs b => hsel i oi cs b hi) (fun cs b => hsel j oj cs b hoj) hy h1
      have hfree' : ∀ k ok, ops[k]? = some ok → k ≠ i → (listed.setIfInBounds j true).getD k true = false →
          (∀ e ∈ ok.after, Region.binds md e = true → e.on ≠ i) → oi.apart ops ok = true := fun k ok hk hki hun hno => by
        refine hfree k ok hk hki ?_ hno
        by_cases hjk : j = k
        · subst hjk; exact hjun
        · rw [getD_set_ne true hjk] at hun; exact hun
      refine wpOp_mono (fun a' W' h3 => ⟨h3.2.1, ih W' (listed.setIfInBounds j true) a' h3.2.1 (inv.set hj hjn) hfree' (ready_mono hr (Ne.symm hji)) h3.1 ?_⟩) h2
      rw [Array.setIfInBounds_comm _ _ hji]
      exact h3.2.2

def wpH2 (P : Program) (md : Region.Mode) (ops : Array Oper) (n : Nat) (L : Array Bool → Act → World → Prop) (b0 : World) (f : Nat) (b : World) (listed : Array Bool) (a : Act) : Prop :=
  HeadInv md ops n listed → wpX2 P md ops n L b0 f b listed a
/-- The g operations from k on, in the order of the text: each yields one value in every world on from b. -/
theorem wpX2_seg {n f : Nat} {L : Array Bool → Act → World → Prop} (H : Head md ops n L) {b0 b : World} (hb : ExtF b0 b) {af : Act} : ∀ (l : List Oper) (k : Nat) (listed : Array Bool) (a : Act),
    (∀ j, j < l.length → l[j]? = ops[k + j]?) → segOk md ops n a.tmps.size k l.length listed = true → HeadInv md ops n listed →
    (∀ c : FromF b0, wpQuiet P ops (On c.w) (· = af) l a) → wpH2 P md ops n L b0 f b (segSet k l.length listed) af → wpX2 P md ops n L b0 (l.length + f) b listed a
  | [], k, listed, a, _, _, inv, h, hr => by
    have e : a = af := h ⟨b0, ExtF.refl b0⟩
    simp only [List.length_nil, Nat.zero_add]
    rw [e]
    exact hr inv
  | o :: l, k, listed, a, hl, hB, inv, h, hr => by
    have h0 : ops[k]? = some o := by simpa using (hl 0 (by simp)).symm
    simp only [List.length_cons, segOk, Bool.and_eq_true, h0, decide_eq_true_eq] at hB
    obtain ⟨⟨⟨⟨hrd, hfr⟩, hkn⟩, hdst⟩, hB'⟩ := hB
    have hrd' : k ∈ Region.ready md ops listed := by simpa using hrd
    obtain ⟨d, hd⟩ : ∃ d, o.dst = some d := by
      cases hd : o.dst with
      | none => rw [hd] at hdst; cases hdst
      | some d => exact ⟨d, rfl⟩
    rw [hd] at hdst
    simp only [Bool.and_eq_true, decide_eq_true_eq] at hdst
    obtain ⟨hdm, hdl⟩ := hdst
    have hne : ∀ o' ∈ l, o'.dst ≠ some d := fun o' ho' => by
      obtain ⟨j, hj, hj'⟩ := List.getElem_of_mem ho'
      have h1 := List.all_eq_true.1 hdl j (List.mem_range.2 hj)
      have h2 := hl (j + 1) (by simp; omega)
      rw [List.getElem?_cons_succ, List.getElem?_eq_getElem hj, hj', show k + (j + 1) = k + 1 + j by omega] at h2
      rw [← h2] at h1
      simpa using h1
    have main : ∃ v, YieldsR P ops b0 o v a ∧ ∀ c : FromF b0, wpQuiet P ops (On c.w) (· = af) l (a.put o.dst v) := by
      by_cases hw : Region.wanted o (yielded ops a.tmps) = true
      · have hv : ∀ c : FromF b0, ∃ v, (∀ w, On c.w w → o.quietAt P a (On c.w) w v) ∧ wpQuiet P ops (On c.w) (· = af) l (a.put o.dst v) ∧ af.tmps[d]? = some v := fun c => by
          have h1 := h c
          simp only [wpQuiet, hw, if_true] at h1
          obtain ⟨v, h2, h3⟩ := h1
          exact ⟨v, h2, h3, by rw [← wpQuiet_slot l _ hne h3, hd]; simp [Act.put, hdm]⟩
        obtain ⟨v, _, _, hv0⟩ := hv ⟨b0, ExtF.refl b0⟩
        refine ⟨v, .inl ⟨hw, fun W hW => ?_⟩, fun c => ?_⟩
        · obtain ⟨v', h2, _, h4⟩ := hv ⟨W, hW⟩
          rw [hv0] at h4; cases h4
          exact quietUpon_mono (fun w ⟨o, ho⟩ => ho ▸ o.h) (h2 W ⟨⟨W, Ext.refl W⟩, rfl⟩)
        · obtain ⟨v', _, h3, h4⟩ := hv c
          rw [hv0] at h4; cases h4
          exact h3
      · refine ⟨undef, .inr ⟨by simpa using hw, rfl⟩, fun c => ?_⟩
        have h1 := h c
        simp only [wpQuiet, hw] at h1
        exact h1
    obtain ⟨v, hy, hq⟩ := main
    have hps : (a.put o.dst v).tmps.size = a.tmps.size := by cases o.dst <;> simp [Act.put]
    rw [List.length_cons, show l.length + 1 + f = (l.length + f) + 1 by omega]
    refine wpX2_first h0 (Region.noSelect_spec H.sel) H.tail hkn H.done _ b listed a hb inv (Region.free_spec h0 hfr) hrd' hy ?_
    exact wpX2_seg H hb l (k + 1) _ _ (fun j hj => by have := hl (j + 1) (by simp; omega); simpa [Nat.add_assoc, Nat.add_comm 1 j] using this) (by rw [hps]; exact hB') (inv.set hrd' hkn) hq hr

theorem wpH2_end {n : Nat} {L : Array Bool → Act → World → Prop} {b0 b : World} {listed : Array Bool} {a : Act} (h : ∀ W, Ext b W → L listed a W) : wpH2 P md ops n L b0 0 b listed a := fun _ => h
theorem wpH2_segL {l0 : List Oper} {n F : Nat} {L : Array Bool → Act → World → Prop} (H : Head md l0.toArray n L) (k g f : Nat) (hF : F = g + f) (hk : (decide (k + g ≤ l0.length)) = true) {b0 b : World} (hb : ExtF b0 b) {listed : Array Bool} {a : Act}
    (hB : segOk md l0.toArray n a.tmps.size k g listed = true)
    (h : ∃ af, (∀ c : FromF b0, wpQuiet P l0.toArray (fun w' => ∃ o : From c.w, w' = o.w) (· = af) ((l0.drop k).take g) a) ∧ wpH2 P md l0.toArray n L b0 f b (segSet k g listed) af) : wpH2 P md l0.toArray n L b0 F b listed a := by
  subst hF
  obtain ⟨af, h1, h2⟩ := h
  have hk' : k + g ≤ l0.length := by simpa using hk
  have hlen : ((l0.drop k).take g).length = g := by simp; omega
  intro inv
  have := wpX2_seg (P := P) (f := f) H hb (af := af) ((l0.drop k).take g) k listed a (fun j hj => by
    rw [hlen] at hj
    simp [hj]) (by rw [hlen]; exact hB) inv h1 (by rw [hlen]; exact h2)
  rwa [hlen] at this
/-- What a step asks: the operation, from whatever world on from b. -/
def Step2 (P : Program) (md : Region.Mode) (ops : Array Oper) (n : Nat) (L : Array Bool → Act → World → Prop) (b0 : World) (f : Nat) (b : World) (listed : Array Bool) (a : Act) (i : Nat) (oi : Oper) : Prop :=
  ∀ W, Ext b W → ∀ K : Act → World → Prop, Lib.Hid' (∀ a' W', ExtF b0 W' → wpH2 P md ops n L b0 f W' (listed.setIfInBounds i true) a' → K a' W') →
      if Region.wanted oi (yielded ops a.tmps) = true then oi.wp P a W K NoQ else K (a.put oi.dst undef) W
theorem wpX2_one {n f : Nat} {L : Array Bool → Act → World → Prop} {b0 b : World} {i : Nat} {oi : Oper} {listed : Array Bool} {a : Act} (hi : ops[i]? = some oi) (hin : i < n) (hri : i ∈ Region.ready md ops listed) (inv : HeadInv md ops n listed)
    (h : Step2 P md ops n L b0 f b listed a i oi) (W : World) (hW : Ext b W) : wpOp P ops NoQ i (fun a' W' => ExtF b0 W' ∧ wpX2 P md ops n L b0 f W' (listed.setIfInBounds i true) a') a W := by
  have := h W hW (fun a' W' => ExtF b0 W' ∧ wpX2 P md ops n L b0 f W' (listed.setIfInBounds i true) a') (fun a' W' he hx => ⟨he, hx (inv.set hri hin)⟩)
  unfold wpOp
  simp only [hi]
  split
  · rename_i hw; rw [if_pos hw] at this; exact .inl this
  · rename_i hw; rw [if_neg hw] at this; exact this
theorem wpH2_stepL {l0 : List Oper} {n F : Nat} {L : Array Bool → Act → World → Prop} {b0 b : World} (i f : Nat) (hF : F = f + 1) {oi : Oper} {listed : Array Bool} {a : Act} (hi : l0[i]? = some oi) (hin : decide (i < n) = true) (hr : Region.ready md l0.toArray listed = [i])
    (h : Step2 P md l0.toArray n L b0 f b listed a i oi) : wpH2 P md l0.toArray n L b0 F b listed a := by
  subst hF
  intro inv
  have hri : i ∈ Region.ready md l0.toArray listed := by rw [hr]; simp
  refine ⟨by rw [hr]; simp, fun j hj => ?_⟩
  rw [hr] at hj
  obtain rfl : j = i := by simpa using hj
  exact ⟨by simpa using hin, wpX2_one (by simpa using hi) (by simpa using hin) hri inv h⟩
/-- Either of two may be next. -/
theorem wpH2_twoL {l0 : List Oper} {n F : Nat} {L : Array Bool → Act → World → Prop} {b0 b : World} (i j f : Nat) (hF : F = f + 1) {oi oj : Oper} {listed : Array Bool} {a : Act} (hi : l0[i]? = some oi) (hj : l0[j]? = some oj) (hin : decide (i < n) = true) (hjn : decide (j < n) = true) (hr : Region.ready md l0.toArray listed = [i, j])
    (h1 : Step2 P md l0.toArray n L b0 f b listed a i oi) (h2 : Step2 P md l0.toArray n L b0 f b listed a j oj) : wpH2 P md l0.toArray n L b0 F b listed a := by
  subst hF
  intro inv
  have hri : i ∈ Region.ready md l0.toArray listed := by rw [hr]; simp
  have hrj : j ∈ Region.ready md l0.toArray listed := by rw [hr]; simp
  refine ⟨by rw [hr]; simp, fun k hk => ?_⟩
  rw [hr] at hk
  rcases (by simpa using hk : k = i ∨ k = j) with rfl | rfl
  · exact ⟨by simpa using hin, wpX2_one (by simpa using hi) (by simpa using hin) hri inv h1⟩
  · exact ⟨by simpa using hjn, wpX2_one (by simpa using hj) (by simpa using hjn) hrj inv h2⟩
end
theorem wp_region_XT2 {P : Program} {id : Nat} {Q : Exit → Act → World → Prop} {a : Act} {w : World} {l : List Oper} (N n : Nat) (hN : l.length = N) (hm : P.follows .mixedOrders = true)
    (hB : (Region.noSelect l.toArray && decide (n < N) && Region.sinkB .any l.toArray n && Region.chainB .any l.toArray n) = true)
    (h : Head .any l.toArray n (theTail P .any l.toArray n (l.drop n) Q) → wpH2 P .any l.toArray n (theTail P .any l.toArray n (l.drop n) Q) w n w (Array.replicate N false) a) : (Code.region id l.toArray true).wp P Q a w := by
  subst hN
  simp only [Bool.and_eq_true, decide_eq_true_eq] at hB
  obtain ⟨⟨⟨hsel, hn⟩, hs⟩, hc⟩ := hB
  have hdl : (l.drop n).length = l.toArray.size - n := by simp
  have H : Head .any l.toArray n (theTail P .any l.toArray n (l.drop n) Q) :=
    ⟨hsel, fun listed inv i hi hun t ht => tail_waits hs hc (by simpa using hn) inv _ i rfl hi hun t ht, fun listed a W h => seqB_ready h.1⟩
  refine wp_region_any hm ?_
  have h0 := wpAny_of_X2 (P := P) (n := n) (g := l.toArray.size - n) (L := theTail P .any l.toArray n (l.drop n) Q) (b0 := w) (Q := Q) (fun listed a W h => by
    have := wpAny_of_seq (md := .any) (Q' := Q) (l.drop n) n listed a W (fun j => by simp [List.getElem?_drop]) (by rw [hdl]; exact h.1) h.2
    rwa [hdl] at this) n w _ a w.drew (Ext.drew' w) (h H (by have := inv0 (md := .any) (ops := l.toArray) (n := n); simpa using this))
  rw [show n + (l.toArray.size - n) = l.toArray.size by simp; omega] at h0
  simpa using h0
/-- .. without a tail: all operations are the head. -/
theorem wp_region_XN {P : Program} {id : Nat} {Q : Exit → Act → World → Prop} {a : Act} {w : World} {l : List Oper} (N : Nat) (hN : l.length = N) (hm : P.follows .mixedOrders = true) (hs : Region.noSelect l.toArray = true)
    (h : Head .any l.toArray N (noTail .any l.toArray Q) → wpH2 P .any l.toArray N (noTail .any l.toArray Q) w N w (Array.replicate N false) a) : (Code.region id l.toArray true).wp P Q a w := by
  subst hN
  refine wp_region_any hm ?_
  have h0 := wpAny_of_X2 (P := P) (n := l.length) (g := 0) (L := noTail .any l.toArray Q) (b0 := w) (Q := Q) (fun listed a W h => ⟨h.1, h.2⟩) l.length w _ a w.drew (Ext.drew' w) (h (head_noTail hs) (by have := inv0 (md := .any) (ops := l.toArray) (n := l.length); simpa using this))
  simpa using h0
end F
end Go.Proofs.YtopgbggighaknaaGreatDoor
