/- Rows of bytes: a change of one block, copy of a text into a row, clear, the text of a row's part. -/
import Derived.Test.YtfpefffgegphnaaDoorBt
import Derived.Laws.CopyOwn
import Derived.Laws.IdiomStrings
import Derived.Lib.Hide
namespace Go.Proofs.YtfpefffgegphnaaDoor
open Go.RowKit Go

/-- Of the blocks that were there all but g lie as they lay. -/
structure Chg (g : Nat) (w w' : World) : Prop where
  os : w'.os = w.os
  tape : w'.tape = w.tape
  output : w'.output = w.output
  size : w.heap.size ≤ w'.heap.size
  block : ∀ k, k < w.heap.size → k ≠ g → w'.heap[k]? = w.heap[k]?
theorem Chg.refl (g : Nat) (w : World) : Chg g w w := ⟨rfl, rfl, rfl, Nat.le_refl _, fun _ _ _ => rfl⟩
theorem Chg.trans {g : Nat} {a b c : World} (h : Chg g a b) (k : Chg g b c) : Chg g a c :=
  ⟨k.os.trans h.os, k.tape.trans h.tape, k.output.trans h.output, Nat.le_trans h.size k.size, fun i hi hn => (k.block i (Nat.lt_of_lt_of_le hi h.size) hn).trans (h.block i hi hn)⟩
theorem Chg.of_ext {g : Nat} {a b : World} (h : Ext a b) : Chg g a b := ⟨h.os, h.tape, h.output, h.size, fun i hi _ => h.block i hi⟩
theorem Chg.ext {g : Nat} {a b c : World} (h : Chg g a b) (k : Ext b c) : Chg g a c := h.trans (.of_ext k)
theorem Chg.setCell {g : Nat} {a b : World} (h : Chg g a b) (o : Nat) (v : Value) : Chg g a (b.setCell ⟨g, o, none⟩ v) :=
  h.trans ⟨rfl, rfl, rfl, by simp [World.setCell], fun i _ hn => Below.heap_setCell _ _ _ _ hn⟩
theorem Chg.setRow (g : Nat) (w : World) (cs : Array Value) : Chg g w (w.setRow g cs) :=
  ⟨rfl, rfl, rfl, by simp [World.setRow], fun k _ hn => setRow_other w g k cs hn⟩
/-- A change of a block that is one's own is none of what was there. -/
theorem Chg.below {B g : Nat} {a b c : World} (h : Below B a b) (k : Chg g b c) (hB : B ≤ b.heap.size) (hg : B ≤ g) : Below B a c :=
  h.trans ⟨k.os, k.tape, k.output, k.size, fun i hi => k.block i (by omega) (by omega)⟩
theorem Blk.chg {g B : Nat} {W W' : World} {cs : Array Value} {t : TypeId} (h : Blk W B cs t) (k : Chg g W W') (hn : B ≠ g) : Blk W' B cs t := (k.block B h.lt hn).trans h
theorem Chg.cell {g : Nat} {a b : World} (h : Chg g a b) {p : Addr} (hp : p.block < a.heap.size) (hn : p.block ≠ g) : b.cell? p = a.cell? p := World.cell?_of_block (w := a) (h.block p.block hp hn)

def bv (b : UInt8) : Value := .int .u8 (b.toNat : Int)
def bts (L : List UInt8) : Array Value := (L.map bv).toArray
theorem bts_size (L : List UInt8) : (bts L).size = L.length := by simp [bts]
theorem bts_get (L : List UInt8) (i : Nat) (h : i < L.length) : (bts L)[i]? = some (bv (L.getD i 0)) := by
  simp [bts, List.getElem?_eq_getElem h, List.getD]
theorem bts_get' (L : List UInt8) (i : Nat) (h : i < L.length) : (bts L)[i]? = some (.int .u8 ((L.getD i 0).toNat : Int)) := bts_get L i h
/-- L, with S laid over it from off on. -/
def lay (L : List UInt8) (off : Nat) (S : List UInt8) : List UInt8 := splice L off S
theorem lay_len (L : List UInt8) (off : Nat) (S : List UInt8) (h : off + S.length ≤ L.length) : (lay L off S).length = L.length := length_splice L off S h
theorem lay_get (L : List UInt8) (off : Nat) (S : List UInt8) (h : off + S.length ≤ L.length) (i : Nat) : (lay L off S).getD i 0 = if off ≤ i ∧ i < off + S.length then S.getD (i - off) 0 else L.getD i 0 := by
  have hl : (L.take off).length = off := by simp; omega
  unfold lay splice
  simp only [List.getD]
  by_cases h1 : i < off
  · rw [List.getElem?_append_left (by omega), List.getElem?_take, if_pos h1, if_neg (by omega)]
  · rw [List.getElem?_append_right (by omega), hl]
    by_cases h2 : i < off + S.length
    · rw [List.getElem?_append_left (by omega), if_pos (by omega)]
    · rw [List.getElem?_append_right (by omega), List.getElem?_drop, if_neg (by omega), show off + S.length + (i - off - S.length) = i by omega]
theorem lay_nil (L : List UInt8) (off : Nat) : lay L off [] = L := by simp [lay, splice]
theorem bts_set (L : List UInt8) (i : Nat) (b : UInt8) : (bts L).setIfInBounds i (.int .u8 (b.toNat : Int)) = bts (L.set i b) := by
  apply Array.ext'
  simp only [Array.toList_setIfInBounds, bts, List.map_set]
  rfl
theorem bts_lay (L : List UInt8) (off : Nat) (S : List UInt8) : ((bts L).toList.take off ++ S.map bv ++ (bts L).toList.drop (off + (S.map bv).length)).toArray = bts (lay L off S) := by
  simp [bts, lay, splice, List.map_take, List.map_drop]

theorem run_copy_text {P : Program} (w : World) (dT sT ty elem : TypeId) (g o dCap : Nat) (S L : List UInt8) (t : TypeId) (hu : P.underlying dT = some (.slice elem)) (hs : (P.info? elem).map (·.size) = some 1)
    (hg : Blk w g (bts L) t) (hfit : o + S.length ≤ L.length) :
    (Builtin.copy_ #[dT, sT] ty #[.slice (some ⟨g, o, none⟩) S.length dCap, .string ⟨S.toArray⟩]).run P w = .ok (goInt S.length) (w.setRow g (bts (lay L o S))) := by
  have hst := run_storeCells_at P g o t (S.map bv) 0 (bts L) w hg (by simpa [bts] using hfit) (by intro v hv; obtain ⟨b, _, rfl⟩ := List.mem_map.1 hv; rfl)
  rw [Nat.add_zero, bts_lay] at hst
  have e1 : (⟨S.toArray⟩ : ByteArray).size = S.length := by simp [ByteArray.size]
  cases hq : P.info? elem with
  | none => simp [hq] at hs
  | some i =>
    have hi : i.size = 1 := by simpa [hq] using hs
    simp [Builtin.copy_, run_underlying hu, Builtin.lenOf, Builtin.firstCells, sizeOf, typeInfo, hq, e1]
    rw [show List.take S.length (List.map (fun b => Value.int IntKind.u8 (b.toNat : Int)) S) = S.map bv by rw [List.take_of_length_le (by simp)]; rfl, hst]
    rfl

theorem run_clear_bytes {P : Program} (w : World) (dT ty elem : TypeId) (g o n dCap : Nat) (L : List UInt8) (t : TypeId) (hu : P.underlying dT = some (.slice elem)) (hz : (P.info? elem).map (·.zero) = some (some (.int .u8 0)))
    (hg : Blk w g (bts L) t) (hn : 0 < n) (hfit : o + n ≤ L.length) :
    (Builtin.clear_ #[dT] ty #[.slice (some ⟨g, o, none⟩) n dCap]).run P w = .ok (.tuple #[]) (w.setRow g (bts (lay L o (List.replicate n 0)))) := by
  have hst := run_storeCells_at P g o t ((List.replicate n (0 : UInt8)).map bv) 0 (bts L) w hg (by simpa [bts] using hfit) (by intro v hv; obtain ⟨b, _, rfl⟩ := List.mem_map.1 hv; rfl)
  rw [Nat.add_zero, bts_lay] at hst
  have e2 : (Builtin.zeroCells #[Value.int .u8 0] n).toList = (List.replicate n (0 : UInt8)).map bv := by
    apply List.ext_getElem?
    intro j
    by_cases hj : j < n
    · simp [Builtin.zeroCells, hj, bv, Nat.mod_one]
    · simp [Builtin.zeroCells, hj]
  cases hq : P.info? elem with
  | none => simp [hq] at hz
  | some i =>
    have hi : i.zero = some (.int .u8 0) := by simpa [hq] using hz
    obtain ⟨m, rfl⟩ : ∃ m, n = m + 1 := ⟨n - 1, by omega⟩
    have hc : (Value.int .u8 0).cells = #[Value.int .u8 0] := rfl
    rw [List.map_replicate] at e2 hst
    simp [Builtin.clear_, run_underlying hu, zeroValue, typeInfo, hq, hi, hc, e2]
    rw [hst]
    rfl

/-- .. as an equation to be laid ahead of the walk. -/
theorem copy_text_some {P : Program} (w : World) (dT sT elem : TypeId) (hu : P.underlying dT = some (.slice elem)) (hsz : (P.info? elem).map (·.size) = some 1)
    (dp : Option Addr) (dLen dCap : Nat) (S L : List UInt8) (hn : dLen = S.length) (g off : Nat) (t : TypeId) (hg : Blk w g (bts L) t) (hpos : 0 < S.length → dp = some ⟨g, off, none⟩) (hfit : off + S.length ≤ L.length) :
    ∃ w', (∀ ty, (Builtin.copy_ #[dT, sT] ty #[.slice dp dLen dCap, .string ⟨S.toArray⟩]).run P w = .ok (goInt S.length) w') ∧ Chg g w w' ∧ Blk w' g (bts (lay L off S)) t := by
  subst hn
  by_cases h0 : S = []
  · subst h0
    refine ⟨w, fun ty => ?_, Chg.refl g w, by rw [lay_nil]; exact hg⟩
    have hz : (⟨(([] : List UInt8)).toArray⟩ : ByteArray) = ByteArray.empty := rfl
    rw [hz]
    cases hq : P.info? elem with
    | none => simp [hq] at hsz
    | some i => cases dp <;> simp [Builtin.copy_, run_underlying hu, Builtin.lenOf, Builtin.firstCells, sizeOf, typeInfo, hq, storeCells]
  · have hp := hpos (by cases S <;> simp_all)
    subst hp
    exact ⟨_, fun ty => run_copy_text (P := P) w dT sT ty elem g off dCap S L t hu hsz hg hfit, Chg.setRow g w _, setRow_heap w g _ _ t _ hg⟩
theorem clear_some {P : Program} (w : World) (dT elem : TypeId) (hu : P.underlying dT = some (.slice elem)) (hz : (P.info? elem).map (·.zero) = some (some (.int .u8 0)))
    (dp : Option Addr) (n dCap : Nat) (L : List UInt8) (g off : Nat) (t : TypeId) (hg : Blk w g (bts L) t) (hpos : 0 < n → dp = some ⟨g, off, none⟩) (hfit : off + n ≤ L.length) :
    ∃ w', (∀ ty, (Builtin.clear_ #[dT] ty #[.slice dp n dCap]).run P w = .ok (.tuple #[]) w') ∧ Chg g w w' ∧ Blk w' g (bts (lay L off (List.replicate n 0))) t := by
  by_cases h0 : n = 0
  · subst h0
    refine ⟨w, fun ty => ?_, Chg.refl g w, by rw [List.replicate_zero, lay_nil]; exact hg⟩
    cases dp <;> simp [Builtin.clear_, run_underlying hu]
  · have hp := hpos (by omega)
    subst hp
    exact ⟨_, fun ty => run_clear_bytes (P := P) w dT ty elem g off n dCap L t hu hz hg (by omega) hfit, Chg.setRow g w _, setRow_heap w g _ _ t _ hg⟩

/-- n bytes of L from off on. -/
def cut (L : List UInt8) (off n : Nat) : List UInt8 := (L.drop off).take n
theorem cut_len (L : List UInt8) (off n : Nat) (h : off + n ≤ L.length) : (cut L off n).length = n := by simp [cut]; omega
theorem cut_get (L : List UInt8) (off n i : Nat) (h : i < n) : (cut L off n).getD i 0 = L.getD (off + i) 0 := by
  simp [cut, List.getD, h]
theorem run_text_of {P : Program} (w : World) (src dst e : TypeId) (dp : Option Addr) (dCap n off g : Nat) (L : List UInt8) (t : TypeId) (hs : P.underlying src = some (.slice e)) (he : P.underlying e = some (.int .u8)) (hd : P.underlying dst = some .string)
    (hg : Blk w g (bts L) t) (hpos : 0 < n → dp = some ⟨g, off, none⟩) (hfit : off + n ≤ L.length) :
    (convert src dst (.slice dp n dCap)).run P w = .ok (.string ⟨(cut L off n).toArray⟩) w := by
  by_cases h0 : n = 0
  · subst h0
    have hl : ∀ (x : Addr), (loadCells x 0).run P w = .ok #[] w := fun x => by simpa using run_loadCells_list (P := P) w x [] (by simp)
    rw [run_convert_bytes_string w src dst e dp 0 dCap hs he hd]
    cases dp with
    | none => simp [Conv.bytesToString, cut]; rfl
    | some x => simp [Conv.bytesToString, cut, hl]; rfl
  · have hp := hpos (by omega)
    subst hp
    have hl := cut_len L off n hfit
    have := run_convert_bytes_back (P := P) w src dst e ⟨g, off, none⟩ dCap (cut L off n) hs he hd (fun j hj => by
      have e : (⟨g, off, none⟩ : Addr).add j = ⟨g, off + j, none⟩ := by unfold Addr.add; by_cases h0 : j = 0 <;> simp [h0]
      rw [e, hg.cell, bts_get' L _ (by omega)]
      have := cut_get L off n j (by omega)
      rw [List.getD, List.getElem?_eq_getElem hj] at this
      simp at this
      rw [this]
      rfl)
    rw [hl] at this
    exact this
end Go.Proofs.YtfpefffgegphnaaDoor
