/- Plain facts on words of 32 bits, as the walks spell them, and the hash of a text by its definition, as a function on lists. No program is named. -/
import Derived.WalkKit
import Derived.Laws.BitsAllLaws
import Derived.Deep.QuietTactic
import Derived.KernelRfl
set_option linter.all false
namespace Go.Proofs.YthkfefkcjcgfkaaGreatDoor
open Go.RowKit

/-- A word's number. -/
def U (x : BitVec 32) : Int := (x.toNat : Int)

theorem U_range (x : BitVec 32) : 0 ≤ U x ∧ U x ≤ 4294967295 := by
  unfold U; have := x.isLt; omega
theorem U_ofInt (x : BitVec 32) : BitVec.ofInt 32 (U x) = x := by
  unfold U
  apply BitVec.eq_of_toNat_eq
  rw [ofInt_u32 x.toNat x.isLt]
theorem U_wrap (x : BitVec 32) : IntKind.u32.wrap (U x) = U x := by
  rw [IntKind.wrap_u32]; have := U_range x; omega
theorem U_add (a b : BitVec 32) : IntKind.u32.wrap (U a + U b) = U (a + b) := by
  rw [IntKind.wrap_u32, U, U, U, BitVec.toNat_add]; omega
theorem U_xor (a b : BitVec 32) : bits .xor .u32 (U a) (U b) = U (a ^^^ b) := by
  show IntKind.u32.wrap ((BitVec.ofInt 32 (U a) ^^^ BitVec.ofInt 32 (U b)).toNat : Int) = _
  rw [U_ofInt, U_ofInt]; exact U_wrap _
theorem U_and (a b : BitVec 32) : bits .and .u32 (U a) (U b) = U (a &&& b) := by
  show IntKind.u32.wrap ((BitVec.ofInt 32 (U a) &&& BitVec.ofInt 32 (U b)).toNat : Int) = _
  rw [U_ofInt, U_ofInt]; exact U_wrap _
theorem U_or (a b : BitVec 32) : bits .or .u32 (U a) (U b) = U (a ||| b) := by
  show IntKind.u32.wrap ((BitVec.ofInt 32 (U a) ||| BitVec.ofInt 32 (U b)).toNat : Int) = _
  rw [U_ofInt, U_ofInt]; exact U_wrap _
theorem U_not (a : BitVec 32) : bits .xor .u32 4294967295 (U a) = U (~~~ a) := by
  show IntKind.u32.wrap ((BitVec.ofInt 32 4294967295 ^^^ BitVec.ofInt 32 (U a)).toNat : Int) = _
  rw [U_ofInt, show BitVec.ofInt 32 4294967295 = BitVec.allOnes 32 by decide, BitVec.allOnes_xor]; exact U_wrap _
theorem U_shl (a : BitVec 32) (n : Nat) (m : Int) (h : m = ((2 ^ n : Nat) : Int)) : IntKind.u32.wrap (U a * m) = U (a <<< n) := by
  subst h
  rw [IntKind.wrap_u32, U, U, BitVec.toNat_shiftLeft, Nat.shiftLeft_eq]
  omega
theorem U_shr (a : BitVec 32) (n : Nat) (m : Int) (h : m = ((2 ^ n : Nat) : Int)) : U a / m = U (a >>> n) := by
  subst h
  rw [U, U, BitVec.toNat_ushiftRight, Nat.shiftRight_eq_div_pow]
  omega

/-- A word turned right. -/
def rotr (x : BitVec 32) (n : Nat) : BitVec 32 := x <<< (32 - n) ||| x >>> n
def S0 (x : BitVec 32) : BitVec 32 := rotr x 2 ^^^ rotr x 13 ^^^ rotr x 22
def S1 (x : BitVec 32) : BitVec 32 := rotr x 6 ^^^ rotr x 11 ^^^ rotr x 25
def s0 (x : BitVec 32) : BitVec 32 := rotr x 7 ^^^ rotr x 18 ^^^ (x >>> 3)
def s1 (x : BitVec 32) : BitVec 32 := rotr x 17 ^^^ rotr x 19 ^^^ (x >>> 10)
/-- A word turned by i and by j and shifted by k. -/
def sft (x : BitVec 32) (i j k : Int) : BitVec 32 := rotr x i.toNat ^^^ rotr x j.toNat ^^^ (x >>> k.toNat)
theorem s0_sft (x : BitVec 32) : s0 x = sft x 7 18 3 := rfl
theorem s1_sft (x : BitVec 32) : s1 x = sft x 17 19 10 := rfl

/-- The words ahead of the first block, and the words k. -/
def first8 : List (BitVec 32) := [0x6a09e667, 0xbb67ae85, 0x3c6ef372, 0xa54ff53a, 0x510e527f, 0x9b05688c, 0x1f83d9ab, 0x5be0cd19]
def k64 : List (BitVec 32) := [
  0x428a2f98, 0x71374491, 0xb5c0fbcf, 0xe9b5dba5, 0x3956c25b, 0x59f111f1, 0x923f82a4, 0xab1c5ed5,
  0xd807aa98, 0x12835b01, 0x243185be, 0x550c7dc3, 0x72be5d74, 0x80deb1fe, 0x9bdc06a7, 0xc19bf174,
  0xe49b69c1, 0xefbe4786, 0x0fc19dc6, 0x240ca1cc, 0x2de92c6f, 0x4a7484aa, 0x5cb0a9dc, 0x76f988da,
  0x983e5152, 0xa831c66d, 0xb00327c8, 0xbf597fc7, 0xc6e00bf3, 0xd5a79147, 0x06ca6351, 0x14292967,
  0x27b70a85, 0x2e1b2138, 0x4d2c6dfc, 0x53380d13, 0x650a7354, 0x766a0abb, 0x81c2c92e, 0x92722c85,
  0xa2bfe8a1, 0xa81a664b, 0xc24b8b70, 0xc76c51a3, 0xd192e819, 0xd6990624, 0xf40e3585, 0x106aa070,
  0x19a4c116, 0x1e376c08, 0x2748774c, 0x34b0bcb5, 0x391c0cb3, 0x4ed8aa4a, 0x5b9cca4f, 0x682e6ff3,
  0x748f82ee, 0x78a5636f, 0x84c87814, 0x8cc70208, 0x90befffa, 0xa4506ceb, 0xbef9a3f7, 0xc67178f2]
/-- A byte's number. -/
def Y (x : UInt8) : Int := (x.toNat : Int)
theorem Y_word (x : UInt8) : Y x = U (x.toBitVec.setWidth 32) := by
  unfold Y U
  rw [BitVec.toNat_setWidth, UInt8.toNat_toBitVec]
  have := x.toNat_lt; omega
theorem Y_wrap (x : UInt8) : IntKind.u32.wrap (Y x) = U (x.toBitVec.setWidth 32) := by rw [Y_word, U_wrap]

/-- The words of a block. -/
def byteAt (l : List UInt8) (i : Nat) : BitVec 32 := (l.getD i 0).toBitVec.setWidth 32
def wordAt (l : List UInt8) (t : Nat) : BitVec 32 := byteAt l (4 * t) <<< 24 ||| byteAt l (4 * t + 1) <<< 16 ||| byteAt l (4 * t + 2) <<< 8 ||| byteAt l (4 * t + 3)
def schedTo (l : List UInt8) : Nat → List (BitVec 32)
  | 0 => []
  | t + 1 => schedTo l t ++ [if t < 16 then wordAt l t else
      (schedTo l t).getD (t - 16) 0 + s0 ((schedTo l t).getD (t - 15) 0) + (schedTo l t).getD (t - 7) 0 + s1 ((schedTo l t).getD (t - 2) 0)]
theorem schedTo_length (l : List UInt8) : ∀ t, (schedTo l t).length = t
  | 0 => rfl
  | t + 1 => by rw [schedTo, List.length_append, schedTo_length l t]; rfl

/-- A row of words as cells: the words that are known, and zeros behind them. -/
def wcells (n : Nat) (L : List (BitVec 32)) : List Value := (L ++ List.replicate (n - L.length) 0).map fun x => Value.int .u32 (U x)
theorem wcells_get (n : Nat) (L : List (BitVec 32)) (i : Nat) (hi : i < L.length) : (wcells n L)[i]? = some (.int .u32 (U (L.getD i 0))) := by
  have h1 : (L ++ List.replicate (n - L.length) 0)[i]? = some L[i] := by rw [List.getElem?_append_left hi]; simp [hi]
  rw [wcells, List.getElem?_map, h1]; simp [List.getD, hi]
theorem wcells_zero (n : Nat) (L : List (BitVec 32)) (k : Nat) (h : L.length = k) (hk : k < n) : (wcells n L)[k]? = some (.int .u32 0) := by
  subst h
  have : (L ++ List.replicate (n - L.length) (0 : BitVec 32))[L.length]? = some 0 := by
    rw [List.getElem?_append_right (Nat.le_refl _), Nat.sub_self, List.getElem?_replicate]; simp; omega
  rw [wcells, List.getElem?_map, this]; rfl
theorem wcells_set (n : Nat) (L : List (BitVec 32)) (v : BitVec 32) (h : L.length < n) : (wcells n L).set L.length (.int .u32 (U v)) = wcells n (L ++ [v]) := by
  have : n - L.length = (n - (L.length + 1)) + 1 := by omega
  simp [wcells, this, List.replicate_succ]

theorem wcells_set' (n : Nat) (L : List (BitVec 32)) (v : BitVec 32) (k : Nat) (h : L.length = k) (hk : k < n) : (wcells n L).set k (.int .u32 (U v)) = wcells n (L ++ [v]) := by
  subst h; exact wcells_set n L v hk
theorem wcells_get' (n : Nat) (L : List (BitVec 32)) (i m : Nat) (h : L.length = m) (hi : i < m) : (wcells n L)[i]? = some (.int .u32 (U (L.getD i 0))) := wcells_get n L i (by omega)
theorem sched_low (l : List UInt8) (k : Nat) (h : k < 16) : schedTo l (k + 1) = schedTo l k ++ [wordAt l k] := by rw [schedTo, if_pos h]
theorem sched_high (l : List UInt8) (m : Nat) : schedTo l (m + 16 + 1) = schedTo l (m + 16) ++ [(schedTo l (m + 16)).getD m 0 + s0 ((schedTo l (m + 16)).getD (m + 1) 0) + (schedTo l (m + 16)).getD (m + 9) 0 + s1 ((schedTo l (m + 16)).getD (m + 14) 0)] := by
  rw [schedTo, if_neg (by omega), show m + 16 - 16 = m by omega, show m + 16 - 15 = m + 1 by omega, show m + 16 - 7 = m + 9 by omega, show m + 16 - 2 = m + 14 by omega]

theorem blk_low {w : World} {wb : Nat} {t0 : TypeId} (l : List UInt8) (k : Nat) (v : BitVec 32) (hk : k < 16) (hv : wordAt l k = v) (h : w.heap[wb]? = some (.cells (wcells 64 (schedTo l k)).toArray t0 (0, 0))) :
    (w.setCell ⟨wb, k, none⟩ (.int .u32 (U v))).heap[wb]? = some (.cells (wcells 64 (schedTo l (k + 1))).toArray t0 (0, 0)) := by
  subst hv
  rw [heap_setCell_same w wb k _ t0 _ h, sched_low l k hk, ← wcells_set' 64 _ _ k (schedTo_length l k) (by omega)]; simp
theorem blk_high {w : World} {wb : Nat} {t0 : TypeId} (l : List UInt8) (m : Nat) (v : BitVec 32) (hk : m + 16 < 64)
    (hv : schedTo l (m + 16 + 1) = schedTo l (m + 16) ++ [v]) (h : w.heap[wb]? = some (.cells (wcells 64 (schedTo l (m + 16))).toArray t0 (0, 0))) :
    (w.setCell ⟨wb, m + 16, none⟩ (.int .u32 (U v))).heap[wb]? = some (.cells (wcells 64 (schedTo l (m + 16 + 1))).toArray t0 (0, 0)) := by
  rw [heap_setCell_same w wb (m + 16) _ t0 _ h, hv, ← wcells_set' 64 _ _ (m + 16) (schedTo_length l (m + 16)) hk]; simp

/-- Below block number B the world w' is as w was, but for block b. -/
structure Save (B b : Nat) (w w' : World) : Prop where
  os : w'.os = w.os
  tape : w'.tape = w.tape
  output : w'.output = w.output
  size : w.heap.size ≤ w'.heap.size
  block : ∀ k, k < B → k ≠ b → w'.heap[k]? = w.heap[k]?
theorem Save.refl (B b : Nat) (w : World) : Save B b w w := ⟨rfl, rfl, rfl, Nat.le_refl _, fun _ _ _ => rfl⟩
theorem Save.trans {B b : Nat} {a w c : World} (h : Save B b a w) (k : Save B b w c) : Save B b a c :=
  ⟨k.os.trans h.os, k.tape.trans h.tape, k.output.trans h.output, Nat.le_trans h.size k.size, fun i hi hn => (k.block i hi hn).trans (h.block i hi hn)⟩
theorem Save.mono {B B' b : Nat} {w w' : World} (h : Save B b w w') (hB : B' ≤ B) : Save B' b w w' := ⟨h.os, h.tape, h.output, h.size, fun k hk hn => h.block k (Nat.lt_of_lt_of_le hk hB) hn⟩
theorem Save.of_below {B b : Nat} {w w' : World} (h : Below B w w') : Save B b w w' := ⟨h.os, h.tape, h.output, h.size, fun k hk _ => h.block k hk⟩
theorem Save.below {B b : Nat} {w w' : World} (h : Save B b w w') (hb : B ≤ b) : Below B w w' := ⟨h.os, h.tape, h.output, h.size, fun k hk => h.block k hk (by omega)⟩
theorem Save.drew {B b : Nat} {a w : World} (h : Save B b a w) : Save B b a w.drew := ⟨h.os, h.tape, h.output, h.size, h.block⟩
theorem Save.drewN {B b : Nat} {a w : World} (h : Save B b a w) (n : Nat) : Save B b a (w.drewN n) := ⟨h.os, h.tape, h.output, h.size, h.block⟩
theorem Save.alloc {B b : Nat} {a w : World} (h : Save B b a w) (hB : B ≤ w.heap.size) (o : Obj) : Save B b a (w.alloc o) :=
  h.trans ⟨rfl, rfl, rfl, by simp, fun k hk _ => Below.heap_alloc _ _ _ (by omega)⟩
theorem Save.setCell {B b : Nat} {a w : World} (h : Save B b a w) {p : Addr} (hp : p.block = b ∨ B ≤ p.block) (u : Value) : Save B b a (w.setCell p u) :=
  h.trans ⟨rfl, rfl, rfl, by simp [World.setCell], fun k hk hn => Below.heap_setCell _ _ _ _ (by omega)⟩
theorem Save.cell {B b : Nat} {w w' : World} (h : Save B b w w') {p : Addr} (hp : p.block < B) (hn : p.block ≠ b) : w'.cell? p = w.cell? p := World.cell?_of_block (w := w) (h.block p.block hp hn)

/-- A block known whole. -/
def Blk (w : World) (b : Nat) (cs : List Value) (t : TypeId) : Prop := w.heap[b]? = some (.cells cs.toArray t (0, 0))
theorem Blk.cell {w : World} {b : Nat} {cs : List Value} {t : TypeId} (h : Blk w b cs t) (i : Nat) : w.cell? ⟨b, i, none⟩ = cs[i]? := by
  rw [cell_of_row w b i _ t _ h]; simp
theorem Blk.free {w : World} {b : Nat} {cs : List Value} {t : TypeId} (h : Blk w b cs t) (i : Nat) : w.frozen? ⟨b, i, none⟩ = false := frozen_of_row w b i _ t h
theorem Blk.lt {w : World} {b : Nat} {cs : List Value} {t : TypeId} (h : Blk w b cs t) : b < w.heap.size := by
  rcases Nat.lt_or_ge b w.heap.size with h' | h'
  · exact h'
  · unfold Blk at h; rw [Array.getElem?_eq_none h'] at h; cases h
theorem Blk.below {B c : Nat} {w w' : World} {cs : List Value} {t : TypeId} (h : Blk w c cs t) (hs : Below B w w') (hc : c < B) : Blk w' c cs t := (hs.block c hc).trans h
theorem Blk.drew {b : Nat} {w : World} {cs : List Value} {t : TypeId} (h : Blk w b cs t) : Blk w.drew b cs t := h
theorem Blk.setCell {w : World} {b : Nat} {cs : List Value} {t : TypeId} (h : Blk w b cs t) (i : Nat) (v : Value) : Blk (w.setCell ⟨b, i, none⟩ v) b (cs.set i v) t := by
  have := heap_setCell_same w b i cs.toArray t v h
  unfold Blk; rw [this]; simp
theorem Blk.setCell_other {w : World} {b : Nat} {cs : List Value} {t : TypeId} (h : Blk w b cs t) (p : Addr) (v : Value) (hp : b ≠ p.block) : Blk (w.setCell p v) b cs t := by
  unfold Blk; rw [heap_setCell_other w p b v hp]; exact h
theorem Blk.alloc {w : World} {b : Nat} {cs : List Value} {t : TypeId} (h : Blk w b cs t) (o : Obj) : Blk (w.alloc o) b cs t := by
  unfold Blk; rw [Below.heap_alloc w o b h.lt]; exact h
theorem Blk.new (w : World) (cs : List Value) (t : TypeId) : Blk (w.alloc (.cells cs.toArray t)) w.heap.size cs t := heap_alloc_new w _
/-- Eight words; a round; a block mixed in. -/
structure S8 where
  a : BitVec 32
  b : BitVec 32
  c : BitVec 32
  d : BitVec 32
  e : BitVec 32
  f : BitVec 32
  g : BitVec 32
  h : BitVec 32
def rnd (k w : BitVec 32) (s : S8) : S8 :=
  let p := s.h + S1 s.e + ((s.e &&& s.f) ^^^ (~~~ s.e &&& s.g)) + k + w
  let q := S0 s.a + ((s.a &&& s.b) ^^^ (s.a &&& s.c) ^^^ (s.b &&& s.c))
  ⟨p + q, s.a, s.b, s.c, s.d + p, s.e, s.f, s.g⟩
def rounds (W : List (BitVec 32)) (s : S8) : Nat → S8
  | 0 => s
  | t + 1 => rnd (k64.getD t 0) (W.getD t 0) (rounds W s t)
def comp (l : List UInt8) (s : S8) : S8 :=
  let r := rounds (schedTo l 64) s 64
  ⟨s.a + r.a, s.b + r.b, s.c + r.c, s.d + r.d, s.e + r.e, s.f + r.f, s.g + r.g, s.h + r.h⟩
def S8.list (s : S8) : List (BitVec 32) := [s.a, s.b, s.c, s.d, s.e, s.f, s.g, s.h]
def S8.cells (s : S8) : List Value := s.list.map fun x => Value.int .u32 (U x)
/-- 64 zeros, written out as a walk writes them. -/
def zeros64 : Array Value := #[Value.int IntKind.u32 0, Value.int IntKind.u32 0, Value.int IntKind.u32 0, Value.int IntKind.u32 0, Value.int IntKind.u32 0, Value.int IntKind.u32 0, Value.int IntKind.u32 0, Value.int IntKind.u32 0, Value.int IntKind.u32 0, Value.int IntKind.u32 0, Value.int IntKind.u32 0, Value.int IntKind.u32 0, Value.int IntKind.u32 0, Value.int IntKind.u32 0, Value.int IntKind.u32 0, Value.int IntKind.u32 0, Value.int IntKind.u32 0, Value.int IntKind.u32 0, Value.int IntKind.u32 0, Value.int IntKind.u32 0, Value.int IntKind.u32 0, Value.int IntKind.u32 0, Value.int IntKind.u32 0, Value.int IntKind.u32 0, Value.int IntKind.u32 0, Value.int IntKind.u32 0, Value.int IntKind.u32 0, Value.int IntKind.u32 0, Value.int IntKind.u32 0, Value.int IntKind.u32 0, Value.int IntKind.u32 0, Value.int IntKind.u32 0, Value.int IntKind.u32 0, Value.int IntKind.u32 0, Value.int IntKind.u32 0, Value.int IntKind.u32 0, Value.int IntKind.u32 0, Value.int IntKind.u32 0, Value.int IntKind.u32 0, Value.int IntKind.u32 0, Value.int IntKind.u32 0, Value.int IntKind.u32 0, Value.int IntKind.u32 0, Value.int IntKind.u32 0, Value.int IntKind.u32 0, Value.int IntKind.u32 0, Value.int IntKind.u32 0, Value.int IntKind.u32 0, Value.int IntKind.u32 0, Value.int IntKind.u32 0, Value.int IntKind.u32 0, Value.int IntKind.u32 0, Value.int IntKind.u32 0, Value.int IntKind.u32 0, Value.int IntKind.u32 0, Value.int IntKind.u32 0, Value.int IntKind.u32 0, Value.int IntKind.u32 0, Value.int IntKind.u32 0, Value.int IntKind.u32 0, Value.int IntKind.u32 0, Value.int IntKind.u32 0, Value.int IntKind.u32 0, Value.int IntKind.u32 0]
theorem zeros64_eq : (wcells 64 []).toArray = zeros64 := by kernel_rfl
theorem u_eq {k : IntKind} {a b : Int} (h : a = b) : Value.int k a = Value.int k b := by rw [h]
end Go.Proofs.YthkfefkcjcgfkaaGreatDoor
