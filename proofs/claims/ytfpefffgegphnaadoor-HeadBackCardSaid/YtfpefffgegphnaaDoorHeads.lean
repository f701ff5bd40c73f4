/- Heads, as bytes: the pure side. -/
import Derived.Test.YtfpefffgegphnaaDoorBy
namespace Go.Proofs.YtfpefffgegphnaaDoor
open Go.RowKit Go
structure MkR where
  kind : Int
  len : Int
  cls : Int
  ep : Int
deriving DecidableEq
namespace HD
def rightM (m : MkR) : Bool := decide (1 ≤ m.kind) && decide (m.kind ≤ 60) && decide (0 ≤ m.len) && decide (m.len ≤ 40000) && decide (1 ≤ m.cls) && decide (m.cls ≤ 3) && decide (0 ≤ m.ep) && decide (m.ep ≤ 255)
def xorL (l : List UInt8) : UInt8 := l.foldl (· ^^^ ·) 0
def u8 (x : Int) : UInt8 := UInt8.ofNat (x % 256).toNat
def bytes7 (m : MkR) : List UInt8 := [181, u8 m.kind, u8 m.cls, u8 m.ep, u8 m.len, u8 (m.len / 256), u8 (m.len / 65536)]
def encS (m : MkR) : List UInt8 := bytes7 m ++ [xorL (bytes7 m)]
def bAt (s : List UInt8) (i : Nat) : Int := ((s.getD i 0).toNat : Int)
def readM (s : List UInt8) : MkR := ⟨bAt s 1, bAt s 4 + 256 * bAt s 5 + 65536 * bAt s 6, bAt s 2, bAt s 3⟩
def okD (s : List UInt8) : Bool := rightM (readM s) && decide (encS (readM s) = s)
def zM : MkR := ⟨0, 0, 0, 0⟩
def decM (s : List UInt8) : MkR := if okD s then readM s else zM
def decE (s : List UInt8) : Int := if okD s then 0 else 60
def encV (m : MkR) : List UInt8 := if rightM m then encS m else []
def encE (m : MkR) : Int := if rightM m then 0 else 60
def turnV (x : Int) : Int := if 0 ≤ x ∧ x < 255 then x + 1 else 0
def clampV (lo hi x : Int) : Int := min (max x lo) hi
def nearM (m : MkR) : MkR := ⟨clampV 1 60 m.kind, clampV 0 40000 m.len, clampV 1 3 m.cls, clampV 0 255 m.ep⟩
structure RightM (m : MkR) : Prop where
  k1 : 1 ≤ m.kind
  k2 : m.kind ≤ 60
  l1 : 0 ≤ m.len
  l2 : m.len ≤ 40000
  c1 : 1 ≤ m.cls
  c2 : m.cls ≤ 3
  e1 : 0 ≤ m.ep
  e2 : m.ep ≤ 255
theorem right_iff {m : MkR} : rightM m = true ↔ RightM m := by
  simp only [rightM, Bool.and_eq_true, decide_eq_true_eq]
  constructor
  · rintro ⟨⟨⟨⟨⟨⟨⟨h1, h2⟩, h3⟩, h4⟩, h5⟩, h6⟩, h7⟩, h8⟩; exact ⟨h1, h2, h3, h4, h5, h6, h7, h8⟩
  · rintro ⟨h1, h2, h3, h4, h5, h6, h7, h8⟩; exact ⟨⟨⟨⟨⟨⟨⟨h1, h2⟩, h3⟩, h4⟩, h5⟩, h6⟩, h7⟩, h8⟩
theorem near_iff (m : MkR) : (nearM m = m) ↔ rightM m = true := by
  obtain ⟨k, l, c, e⟩ := m
  rw [right_iff]
  simp only [nearM, clampV, MkR.mk.injEq]
  constructor
  · rintro ⟨h1, h2, h3, h4⟩; exact ⟨show 1 ≤ k by omega, show k ≤ 60 by omega, show 0 ≤ l by omega, show l ≤ 40000 by omega, show 1 ≤ c by omega, show c ≤ 3 by omega, show 0 ≤ e by omega, show e ≤ 255 by omega⟩
  · rintro ⟨h1, h2, h3, h4, h5, h6, h7, h8⟩; simp only at *; exact ⟨by omega, by omega, by omega, by omega⟩
theorem near_dec (m : MkR) : decide (nearM m = m) = rightM m := by
  rcases h : rightM m with _ | _
  · exact decide_eq_false (fun e => by rw [(near_iff m).1 e] at h; cases h)
  · exact decide_eq_true ((near_iff m).2 h)
theorem enc_len (m : MkR) : (encS m).length = 8 := rfl
theorem bAt_lo (s : List UInt8) (i : Nat) : 0 ≤ bAt s i := by unfold bAt; omega
theorem bAt_hi (s : List UInt8) (i : Nat) : bAt s i ≤ 255 := by unfold bAt; have := (s.getD i 0).toNat_lt; omega
theorem u8_nat (x : Int) : ((u8 x).toNat : Int) = x % 256 := by
  unfold u8
  rw [UInt8.toNat_ofNat']
  have h1 := Int.emod_nonneg x (show (256 : Int) ≠ 0 by decide)
  have h2 := Int.emod_lt_of_pos x (show (0 : Int) < 256 by decide)
  omega
theorem read_enc {m : MkR} (h : rightM m = true) : readM (encS m) = m := by
  obtain ⟨k, l, c, e⟩ := m
  obtain ⟨h1, h2, h3, h4, h5, h6, h7, h8⟩ := right_iff.1 h
  simp only at *
  show MkR.mk ((u8 k).toNat : Int) (((u8 l).toNat : Int) + 256 * ((u8 (l / 256)).toNat : Int) + 65536 * ((u8 (l / 65536)).toNat : Int)) ((u8 c).toNat : Int) ((u8 e).toNat : Int) = _
  rw [u8_nat, u8_nat, u8_nat, u8_nat, u8_nat, u8_nat, MkR.mk.injEq]
  exact ⟨by omega, by omega, by omega, by omega⟩
theorem ok_enc {m : MkR} (h : rightM m = true) : okD (encS m) = true := by
  unfold okD; rw [read_enc h, h]; simp
theorem dec_enc {m : MkR} (h : rightM m = true) : decM (encS m) = m ∧ decE (encS m) = 0 := by
  unfold decM decE; rw [ok_enc h, if_pos rfl, if_pos rfl, read_enc h]; exact ⟨rfl, rfl⟩
theorem ok_len {s : List UInt8} (h : okD s = true) : s.length = 8 := by
  unfold okD at h
  rw [Bool.and_eq_true, decide_eq_true_eq] at h
  rw [← h.2]; rfl
theorem ok_right {s : List UInt8} (h : okD s = true) : rightM (readM s) = true ∧ encS (readM s) = s := by
  unfold okD at h
  rwa [Bool.and_eq_true, decide_eq_true_eq] at h
theorem enc_inj {a b : MkR} (ha : rightM a = true) (hb : rightM b = true) (h : encS a = encS b) : a = b := by rw [← read_enc ha, ← read_enc hb, h]
/- in all eight together -/
theorem xor_foldl (l : List UInt8) : ∀ a : UInt8, l.foldl (· ^^^ ·) a = a ^^^ xorL l := by
  induction l with
  | nil => intro a; simp [xorL]
  | cons x r ih =>
    intro a
    show r.foldl (· ^^^ ·) (a ^^^ x) = a ^^^ r.foldl (· ^^^ ·) (0 ^^^ x)
    rw [ih, ih (0 ^^^ x)]
    simp [UInt8.xor_assoc]
theorem xor_cons (x : UInt8) (l : List UInt8) : xorL (x :: l) = x ^^^ xorL l := by
  rw [xorL, List.foldl_cons, xor_foldl]; simp
theorem xor_app (l r : List UInt8) : xorL (l ++ r) = xorL l ^^^ xorL r := by
  rw [xorL, List.foldl_append, xor_foldl r, ← xorL]
theorem enc_xor (m : MkR) : xorL (encS m) = 0 := by
  rw [encS, xor_app, xor_cons]; simp [xorL]
theorem xor_set (l : List UInt8) : ∀ (i : Nat) (d : UInt8), i < l.length → xorL (l.set i (l.getD i 0 ^^^ d)) = xorL l ^^^ d := by
  induction l with
  | nil => intro i d h; exact absurd h (by simp)
  | cons x r ih =>
    intro i d h
    cases i with
    | zero => show xorL ((x ^^^ d) :: r) = _; rw [xor_cons, xor_cons]; simp only [UInt8.xor_assoc]; rw [UInt8.xor_comm d]
    | succ i => show xorL (x :: r.set i (r.getD i 0 ^^^ d)) = _; rw [xor_cons, xor_cons, ih i d (by simpa using h)]; simp only [UInt8.xor_assoc]
theorem dec_flip (m : MkR) (i : Nat) (d : UInt8) (hi : i < 8) (hd : d ≠ 0) : okD ((encS m).set i ((encS m).getD i 0 ^^^ d)) = false := by
  rw [Bool.eq_false_iff]
  intro h
  have h2 := (ok_right h).2
  have h3 := xor_set (encS m) i d (by rw [enc_len]; exact hi)
  rw [← h2, enc_xor, enc_xor] at h3
  exact hd (by simpa using h3.symm)
end HD
end Go.Proofs.YtfpefffgegphnaaDoor
