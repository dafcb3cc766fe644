/- Plain facts on words of 32 bits, as the walks spell them, and the hash of a text by its definition, as a function on lists. No program is named. | Walks of the scalar functions of package sha: a word turned, and the sums of turned words. No conditions. | A region that draws its order, whose operations but the last few read or call quietly, the last few standing in one forced order behind all the others: one walk in the order of the text serves every order. The class of worlds is a parameter. No program is named. | Walk of sha.spread: the words of a block. | More plain facts on the hash: what a row of rounds has come to. No program is named. | Walk of sha.mix: a block mixed into the state of a digest. | The last step of a law's row: a call that returned true and changed nothing that was there. No program is named. | The law for copy from a text into a row of cells known whole. No program is named. | Plain facts: what a digest holds of a text. | Walks of a digest's methods. | Slices of the arrays that a digest and its hash are made in. | Walk of a digest's Add. | Walk of a digest's finish. | Walks of a digest's Sum, Len, Copy and New. | Walks of sha.Sum and sha.Tag over parts. -/
import Derived.WalkKit
import Derived.Laws.BitsAllLaws
import Derived.Deep.QuietTactic
import Derived.KernelRfl
import Derived.WalkSpells
import Derived.WalkLawsBesides
import Derived.BigQuiet
import Derived.Laws.BytesArg
import Derived.IntWalk
import Derived.StillTailTactics
import Derived.Lib.Hide
import Derived.ProofKit
import Derived.OpenShut
import Derived.Carry
import Derived.Laws.CopyRow
import Derived.Handy
import Derived.Test.YthkfefkcjcgfkaaGreatDoorRows
set_option linter.all false
namespace Go.Proofs.YthkfefkcjcgfkaaGreatDoor
open Go.RowKit

/-- A word's number. -/
def U (x : BitVec 32) : Int := (x.toNat : Int)

theorem U_range (x : BitVec 32) : 0 ≤ U x ∧ U x ≤ 4294967295 := by
  unfold U; have := x.isLt; omega
theorem U_ofInt (x : BitVec 32) : BitVec.ofInt 32 (U x) = x := by
  unfold U
  apply BitVec.eq_of_toNat_eq
  rw [ofInt_u32 x.toNat x.isLt]
theorem U_wrap (x : BitVec 32) : IntKind.u32.wrap (U x) = U x := by
  rw [IntKind.wrap_u32]; have := U_range x; omega
theorem U_add (a b : BitVec 32) : IntKind.u32.wrap (U a + U b) = U (a + b) := by
  rw [IntKind.wrap_u32, U, U, U, BitVec.toNat_add]; omega
theorem U_xor (a b : BitVec 32) : bits .xor .u32 (U a) (U b) = U (a ^^^ b) := by
  show IntKind.u32.wrap ((BitVec.ofInt 32 (U a) ^^^ BitVec.ofInt 32 (U b)).toNat : Int) = _
  rw [U_ofInt, U_ofInt]; exact U_wrap _
theorem U_and (a b : BitVec 32) : bits .and .u32 (U a) (U b) = U (a &&& b) := by
  show IntKind.u32.wrap ((BitVec.ofInt 32 (U a) &&& BitVec.ofInt 32 (U b)).toNat : Int) = _
  rw [U_ofInt, U_ofInt]; exact U_wrap _
theorem U_or (a b : BitVec 32) : bits .or .u32 (U a) (U b) = U (a ||| b) := by
  show IntKind.u32.wrap ((BitVec.ofInt 32 (U a) ||| BitVec.ofInt 32 (U b)).toNat : Int) = _
  rw [U_ofInt, U_ofInt]; exact U_wrap _
theorem U_not (a : BitVec 32) : bits .xor .u32 4294967295 (U a) = U (~~~ a) := by
  show IntKind.u32.wrap ((BitVec.ofInt 32 4294967295 ^^^ BitVec.ofInt 32 (U a)).toNat : Int) = _
  rw [U_ofInt, show BitVec.ofInt 32 4294967295 = BitVec.allOnes 32 by decide, BitVec.allOnes_xor]; exact U_wrap _
theorem U_shl (a : BitVec 32) (n : Nat) (m : Int) (h : m = ((2 ^ n : Nat) : Int)) : IntKind.u32.wrap (U a * m) = U (a <<< n) := by
  subst h
  rw [IntKind.wrap_u32, U, U, BitVec.toNat_shiftLeft, Nat.shiftLeft_eq]
  omega
theorem U_shr (a : BitVec 32) (n : Nat) (m : Int) (h : m = ((2 ^ n : Nat) : Int)) : U a / m = U (a >>> n) := by
  subst h
  rw [U, U, BitVec.toNat_ushiftRight, Nat.shiftRight_eq_div_pow]
  omega

/-- A word turned right. -/
def rotr (x : BitVec 32) (n : Nat) : BitVec 32 := x <<< (32 - n) ||| x >>> n
def S0 (x : BitVec 32) : BitVec 32 := rotr x 2 ^^^ rotr x 13 ^^^ rotr x 22
def S1 (x : BitVec 32) : BitVec 32 := rotr x 6 ^^^ rotr x 11 ^^^ rotr x 25
def s0 (x : BitVec 32) : BitVec 32 := rotr x 7 ^^^ rotr x 18 ^^^ (x >>> 3)
def s1 (x : BitVec 32) : BitVec 32 := rotr x 17 ^^^ rotr x 19 ^^^ (x >>> 10)
/-- A word turned by i and by j and shifted by k. -/
def sft (x : BitVec 32) (i j k : Int) : BitVec 32 := rotr x i.toNat ^^^ rotr x j.toNat ^^^ (x >>> k.toNat)
theorem s0_sft (x : BitVec 32) : s0 x = sft x 7 18 3 := rfl
theorem s1_sft (x : BitVec 32) : s1 x = sft x 17 19 10 := rfl

/-- The words ahead of the first block, and the words k. -/
def first8 : List (BitVec 32) := [0x6a09e667, 0xbb67ae85, 0x3c6ef372, 0xa54ff53a, 0x510e527f, 0x9b05688c, 0x1f83d9ab, 0x5be0cd19]
def k64 : List (BitVec 32) := [
  0x428a2f98, 0x71374491, 0xb5c0fbcf, 0xe9b5dba5, 0x3956c25b, 0x59f111f1, 0x923f82a4, 0xab1c5ed5,
  0xd807aa98, 0x12835b01, 0x243185be, 0x550c7dc3, 0x72be5d74, 0x80deb1fe, 0x9bdc06a7, 0xc19bf174,
  0xe49b69c1, 0xefbe4786, 0x0fc19dc6, 0x240ca1cc, 0x2de92c6f, 0x4a7484aa, 0x5cb0a9dc, 0x76f988da,
  0x983e5152, 0xa831c66d, 0xb00327c8, 0xbf597fc7, 0xc6e00bf3, 0xd5a79147, 0x06ca6351, 0x14292967,
  0x27b70a85, 0x2e1b2138, 0x4d2c6dfc, 0x53380d13, 0x650a7354, 0x766a0abb, 0x81c2c92e, 0x92722c85,
  0xa2bfe8a1, 0xa81a664b, 0xc24b8b70, 0xc76c51a3, 0xd192e819, 0xd6990624, 0xf40e3585, 0x106aa070,
  0x19a4c116, 0x1e376c08, 0x2748774c, 0x34b0bcb5, 0x391c0cb3, 0x4ed8aa4a, 0x5b9cca4f, 0x682e6ff3,
  0x748f82ee, 0x78a5636f, 0x84c87814, 0x8cc70208, 0x90befffa, 0xa4506ceb, 0xbef9a3f7, 0xc67178f2]
/-- A byte's number. -/
def Y (x : UInt8) : Int := (x.toNat : Int)
theorem Y_word (x : UInt8) : Y x = U (x.toBitVec.setWidth 32) := by
  unfold Y U
  rw [BitVec.toNat_setWidth, UInt8.toNat_toBitVec]
  have := x.toNat_lt; omega
theorem Y_wrap (x : UInt8) : IntKind.u32.wrap (Y x) = U (x.toBitVec.setWidth 32) := by rw [Y_word, U_wrap]

/-- The words of a block. -/
def byteAt (l : List UInt8) (i : Nat) : BitVec 32 := (l.getD i 0).toBitVec.setWidth 32
def wordAt (l : List UInt8) (t : Nat) : BitVec 32 := byteAt l (4 * t) <<< 24 ||| byteAt l (4 * t + 1) <<< 16 ||| byteAt l (4 * t + 2) <<< 8 ||| byteAt l (4 * t + 3)
def schedTo (l : List UInt8) : Nat → List (BitVec 32)
  | 0 => []
  | t + 1 => schedTo l t ++ [if t < 16 then wordAt l t else
      (schedTo l t).getD (t - 16) 0 + s0 ((schedTo l t).getD (t - 15) 0) + (schedTo l t).getD (t - 7) 0 + s1 ((schedTo l t).getD (t - 2) 0)]
theorem schedTo_length (l : List UInt8) : ∀ t, (schedTo l t).length = t
  | 0 => rfl
  | t + 1 => by rw [schedTo, List.length_append, schedTo_length l t]; rfl

/-- A row of words as cells: the words that are known, and zeros behind them. -/
def wcells (n : Nat) (L : List (BitVec 32)) : List Value := (L ++ List.replicate (n - L.length) 0).map fun x => Value.int .u32 (U x)
theorem wcells_get (n : Nat) (L : List (BitVec 32)) (i : Nat) (hi : i < L.length) : (wcells n L)[i]? = some (.int .u32 (U (L.getD i 0))) := by
  have h1 : (L ++ List.replicate (n - L.length) 0)[i]? = some L[i] := by rw [List.getElem?_append_left hi]; simp [hi]
  rw [wcells, List.getElem?_map, h1]; simp [List.getD, hi]
theorem wcells_zero (n : Nat) (L : List (BitVec 32)) (k : Nat) (h : L.length = k) (hk : k < n) : (wcells n L)[k]? = some (.int .u32 0) := by
  subst h
  have : (L ++ List.replicate (n - L.length) (0 : BitVec 32))[L.length]? = some 0 := by
    rw [List.getElem?_append_right (Nat.le_refl _), Nat.sub_self, List.getElem?_replicate]; simp; omega
  rw [wcells, List.getElem?_map, this]; rfl
theorem wcells_set (n : Nat) (L : List (BitVec 32)) (v : BitVec 32) (h : L.length < n) : (wcells n L).set L.length (.int .u32 (U v)) = wcells n (L ++ [v]) := by
  have : n - L.length = (n - (L.length + 1)) + 1 := by omega
  simp [wcells, this, List.replicate_succ]

theorem wcells_set' (n : Nat) (L : List (BitVec 32)) (v : BitVec 32) (k : Nat) (h : L.length = k) (hk : k < n) : (wcells n L).set k (.int .u32 (U v)) = wcells n (L ++ [v]) := by
  subst h; exact wcells_set n L v hk
theorem wcells_get' (n : Nat) (L : List (BitVec 32)) (i m : Nat) (h : L.length = m) (hi : i < m) : (wcells n L)[i]? = some (.int .u32 (U (L.getD i 0))) := wcells_get n L i (by omega)
theorem sched_low (l : List UInt8) (k : Nat) (h : k < 16) : schedTo l (k + 1) = schedTo l k ++ [wordAt l k] := by rw [schedTo, if_pos h]
theorem sched_high (l : List UInt8) (m : Nat) : schedTo l (m + 16 + 1) = schedTo l (m + 16) ++ [(schedTo l (m + 16)).getD m 0 + s0 ((schedTo l (m + 16)).getD (m + 1) 0) + (schedTo l (m + 16)).getD (m + 9) 0 + s1 ((schedTo l (m + 16)).getD (m + 14) 0)] := by
  rw [schedTo, if_neg (by omega), show m + 16 - 16 = m by omega, show m + 16 - 15 = m + 1 by omega, show m + 16 - 7 = m + 9 by omega, show m + 16 - 2 = m + 14 by omega]

theorem blk_low {w : World} {wb : Nat} {t0 : TypeId} (l : List UInt8) (k : Nat) (v : BitVec 32) (hk : k < 16) (hv : wordAt l k = v) (h : w.heap[wb]? = some (.cells (wcells 64 (schedTo l k)).toArray t0 (0, 0))) :
    (w.setCell ⟨wb, k, none⟩ (.int .u32 (U v))).heap[wb]? = some (.cells (wcells 64 (schedTo l (k + 1))).toArray t0 (0, 0)) := by
  subst hv
  rw [heap_setCell_same w wb k _ t0 _ h, sched_low l k hk, ← wcells_set' 64 _ _ k (schedTo_length l k) (by omega)]; simp
theorem blk_high {w : World} {wb : Nat} {t0 : TypeId} (l : List UInt8) (m : Nat) (v : BitVec 32) (hk : m + 16 < 64)
    (hv : schedTo l (m + 16 + 1) = schedTo l (m + 16) ++ [v]) (h : w.heap[wb]? = some (.cells (wcells 64 (schedTo l (m + 16))).toArray t0 (0, 0))) :
    (w.setCell ⟨wb, m + 16, none⟩ (.int .u32 (U v))).heap[wb]? = some (.cells (wcells 64 (schedTo l (m + 16 + 1))).toArray t0 (0, 0)) := by
  rw [heap_setCell_same w wb (m + 16) _ t0 _ h, hv, ← wcells_set' 64 _ _ (m + 16) (schedTo_length l (m + 16)) hk]; simp

/-- Below block number B the world w' is as w was, but for block b. -/
structure Save (B b : Nat) (w w' : World) : Prop where
  os : w'.os = w.os
  tape : w'.tape = w.tape
  output : w'.output = w.output
  size : w.heap.size ≤ w'.heap.size
  block : ∀ k, k < B → k ≠ b → w'.heap[k]? = w.heap[k]?
theorem Save.refl (B b : Nat) (w : World) : Save B b w w := ⟨rfl, rfl, rfl, Nat.le_refl _, fun _ _ _ => rfl⟩
theorem Save.trans {B b : Nat} {a w c : World} (h : Save B b a w) (k : Save B b w c) : Save B b a c :=
  ⟨k.os.trans h.os, k.tape.trans h.tape, k.output.trans h.output, Nat.le_trans h.size k.size, fun i hi hn => (k.block i hi hn).trans (h.block i hi hn)⟩
theorem Save.mono {B B' b : Nat} {w w' : World} (h : Save B b w w') (hB : B' ≤ B) : Save B' b w w' := ⟨h.os, h.tape, h.output, h.size, fun k hk hn => h.block k (Nat.lt_of_lt_of_le hk hB) hn⟩
theorem Save.of_below {B b : Nat} {w w' : World} (h : Below B w w') : Save B b w w' := ⟨h.os, h.tape, h.output, h.size, fun k hk _ => h.block k hk⟩
theorem Save.below {B b : Nat} {w w' : World} (h : Save B b w w') (hb : B ≤ b) : Below B w w' := ⟨h.os, h.tape, h.output, h.size, fun k hk => h.block k hk (by omega)⟩
theorem Save.drew {B b : Nat} {a w : World} (h : Save B b a w) : Save B b a w.drew := ⟨h.os, h.tape, h.output, h.size, h.block⟩
theorem Save.drewN {B b : Nat} {a w : World} (h : Save B b a w) (n : Nat) : Save B b a (w.drewN n) := ⟨h.os, h.tape, h.output, h.size, h.block⟩
theorem Save.alloc {B b : Nat} {a w : World} (h : Save B b a w) (hB : B ≤ w.heap.size) (o : Obj) : Save B b a (w.alloc o) :=
  h.trans ⟨rfl, rfl, rfl, by simp, fun k hk _ => Below.heap_alloc _ _ _ (by omega)⟩
theorem Save.setCell {B b : Nat} {a w : World} (h : Save B b a w) {p : Addr} (hp : p.block = b ∨ B ≤ p.block) (u : Value) : Save B b a (w.setCell p u) :=
  h.trans ⟨rfl, rfl, rfl, by simp [World.setCell], fun k hk hn => Below.heap_setCell _ _ _ _ (by omega)⟩
theorem Save.cell {B b : Nat} {w w' : World} (h : Save B b w w') {p : Addr} (hp : p.block < B) (hn : p.block ≠ b) : w'.cell? p = w.cell? p := World.cell?_of_block (w := w) (h.block p.block hp hn)

/-- A block known whole. -/
def Blk (w : World) (b : Nat) (cs : List Value) (t : TypeId) : Prop := w.heap[b]? = some (.cells cs.toArray t (0, 0))
theorem Blk.cell {w : World} {b : Nat} {cs : List Value} {t : TypeId} (h : Blk w b cs t) (i : Nat) : w.cell? ⟨b, i, none⟩ = cs[i]? := by
  rw [cell_of_row w b i _ t _ h]; simp
theorem Blk.free {w : World} {b : Nat} {cs : List Value} {t : TypeId} (h : Blk w b cs t) (i : Nat) : w.frozen? ⟨b, i, none⟩ = false := frozen_of_row w b i _ t h
theorem Blk.lt {w : World} {b : Nat} {cs : List Value} {t : TypeId} (h : Blk w b cs t) : b < w.heap.size := by
  rcases Nat.lt_or_ge b w.heap.size with h' | h'
  · exact h'
  · unfold Blk at h; rw [Array.getElem?_eq_none h'] at h; cases h
theorem Blk.below {B c : Nat} {w w' : World} {cs : List Value} {t : TypeId} (h : Blk w c cs t) (hs : Below B w w') (hc : c < B) : Blk w' c cs t := (hs.block c hc).trans h
theorem Blk.drew {b : Nat} {w : World} {cs : List Value} {t : TypeId} (h : Blk w b cs t) : Blk w.drew b cs t := h
theorem Blk.setCell {w : World} {b : Nat} {cs : List Value} {t : TypeId} (h : Blk w b cs t) (i : Nat) (v : Value) : Blk (w.setCell ⟨b, i, none⟩ v) b (cs.set i v) t := by
  have := heap_setCell_same w b i cs.toArray t v h
  unfold Blk; rw [this]; simp
theorem Blk.setCell_other {w : World} {b : Nat} {cs : List Value} {t : TypeId} (h : Blk w b cs t) (p : Addr) (v : Value) (hp : b ≠ p.block) : Blk (w.setCell p v) b cs t := by
  unfold Blk; rw [heap_setCell_other w p b v hp]; exact h
theorem Blk.alloc {w : World} {b : Nat} {cs : List Value} {t : TypeId} (h : Blk w b cs t) (o : Obj) : Blk (w.alloc o) b cs t := by
  unfold Blk; rw [Below.heap_alloc w o b h.lt]; exact h
theorem Blk.new (w : World) (cs : List Value) (t : TypeId) : Blk (w.alloc (.cells cs.toArray t)) w.heap.size cs t := heap_alloc_new w _
/-- Eight words; a round; a block mixed in. -/
structure S8 where
  a : BitVec 32
  b : BitVec 32
  c : BitVec 32
  d : BitVec 32
  e : BitVec 32
  f : BitVec 32
  g : BitVec 32
  h : BitVec 32
def rnd (k w : BitVec 32) (s : S8) : S8 :=
  let p := s.h + S1 s.e + ((s.e &&& s.f) ^^^ (~~~ s.e &&& s.g)) + k + w
  let q := S0 s.a + ((s.a &&& s.b) ^^^ (s.a &&& s.c) ^^^ (s.b &&& s.c))
  ⟨p + q, s.a, s.b, s.c, s.d + p, s.e, s.f, s.g⟩
def rounds (W : List (BitVec 32)) (s : S8) : Nat → S8
  | 0 => s
  | t + 1 => rnd (k64.getD t 0) (W.getD t 0) (rounds W s t)
def comp (l : List UInt8) (s : S8) : S8 :=
  let r := rounds (schedTo l 64) s 64
  ⟨s.a + r.a, s.b + r.b, s.c + r.c, s.d + r.d, s.e + r.e, s.f + r.f, s.g + r.g, s.h + r.h⟩
def S8.list (s : S8) : List (BitVec 32) := [s.a, s.b, s.c, s.d, s.e, s.f, s.g, s.h]
def S8.cells (s : S8) : List Value := s.list.map fun x => Value.int .u32 (U x)
/-- 64 zeros, written out as a walk writes them. -/
def zeros64 : Array Value := #[Value.int IntKind.u32 0, Value.int IntKind.u32 0, Value.int IntKind.u32 0, Value.int IntKind.u32 0, Value.int IntKind.u32 0, Value.int IntKind.u32 0, Value.int IntKind.u32 0, Value.int IntKind.u32 0, Value.int IntKind.u32 0, Value.int IntKind.u32 0, Value.int IntKind.u32 0, Value.int IntKind.u32 0, Value.int IntKind.u32 0, Value.int IntKind.u32 0, Value.int IntKind.u32 0, Value.int IntKind.u32 0, Value.int IntKind.u32 0, Value.int IntKind.u32 0, Value.int IntKind.u32 0, Value.int IntKind.u32 0, Value.int IntKind.u32 0, Value.int IntKind.u32 0, Value.int IntKind.u32 0, Value.int IntKind.u32 0, Value.int IntKind.u32 0, Value.int IntKind.u32 0, Value.int IntKind.u32 0, Value.int IntKind.u32 0, Value.int IntKind.u32 0, Value.int IntKind.u32 0, Value.int IntKind.u32 0, Value.int IntKind.u32 0, Value.int IntKind.u32 0, Value.int IntKind.u32 0, Value.int IntKind.u32 0, Value.int IntKind.u32 0, Value.int IntKind.u32 0, Value.int IntKind.u32 0, Value.int IntKind.u32 0, Value.int IntKind.u32 0, Value.int IntKind.u32 0, Value.int IntKind.u32 0, Value.int IntKind.u32 0, Value.int IntKind.u32 0, Value.int IntKind.u32 0, Value.int IntKind.u32 0, Value.int IntKind.u32 0, Value.int IntKind.u32 0, Value.int IntKind.u32 0, Value.int IntKind.u32 0, Value.int IntKind.u32 0, Value.int IntKind.u32 0, Value.int IntKind.u32 0, Value.int IntKind.u32 0, Value.int IntKind.u32 0, Value.int IntKind.u32 0, Value.int IntKind.u32 0, Value.int IntKind.u32 0, Value.int IntKind.u32 0, Value.int IntKind.u32 0, Value.int IntKind.u32 0, Value.int IntKind.u32 0, Value.int IntKind.u32 0, Value.int IntKind.u32 0]
theorem zeros64_eq : (wcells 64 []).toArray = zeros64 := by kernel_rfl
theorem u_eq {k : IntKind} {a b : Int} (h : a = b) : Value.int k a = Value.int k b := by rw [h]
end Go.Proofs.YthkfefkcjcgfkaaGreatDoor

namespace Go.Proofs.YthkfefkcjcgfkaaGreatDoor
open Go.RowKit

set_option maxHeartbeats 400000 in
theorem rot_nat (n : Nat) (x : BitVec 32) (w : World) (hn : 1 ≤ n ∧ n ≤ 31) :
    Calls Tryz.prog 171 #[.int .u32 (U x), .int .i64 (-(n : Int))] w fun e w' => e = .returned (.int .u32 (U (rotr x n))) ∧ w = w' := by
  have h1 : bits .and .u64 (IntKind.u64.wrap (-(n : Int))) 31 = 32 - (n : Int) := by
    obtain ⟨a, b⟩ := hn
    have : ∀ m : Fin 32, 1 ≤ m.val → bits .and .u64 (IntKind.u64.wrap (-(m.val : Int))) 31 = 32 - (m.val : Int) := by decide
    exact this ⟨n, by omega⟩ a
  have h2 := U_shl x (32 - n) (2 ^ (32 - n)) (by simp)
  have h3 := U_shr x n (2 ^ n) (by simp)
  have h4 := U_or
  have h6 : (min (32 - (n : Int)).toNat 32) = 32 - n := by omega
  have h7 : (min (n : Int).toNat 32) = n := by omega
  have h8 : (32 - (32 - (n : Int))) = n := by omega
  go_enter Tryz.func171, Tryz.ntmps171
  go_wp2
  go_ret
  exact ⟨rfl, rfl⟩
theorem rot_by (k : Int) (x : BitVec 32) (w : World) (hn : -31 ≤ k ∧ k ≤ -1) :
    Calls Tryz.prog 171 #[.int .u32 (U x), .int .i64 k] w fun e w' => e = .returned (.int .u32 (U (rotr x (-k).toNat))) ∧ w = w' := by
  obtain ⟨n, rfl⟩ : ∃ n : Nat, k = -(n : Int) := ⟨(-k).toNat, by omega⟩
  have : (- -(n : Int)).toNat = n := by omega
  rw [this]
  exact rot_nat n x w (by omega)

set_option maxHeartbeats 400000 in
theorem turns_S1 (x : BitVec 32) (w : World) :
    Calls Tryz.prog 165 #[.int .u32 (U x), .int .i64 6, .int .i64 11, .int .i64 25] w fun e w' => e = .returned (.int .u32 (U (S1 x))) ∧ w = w' := by
  have h4 := U_xor
  go_enter Tryz.func165, Tryz.ntmps165
  go_wp2_with (go_at_call 171; refine (rot_by _ _ _ (by omega)).mono ?_; rintro e w' ⟨rfl, rfl⟩)
  go_ret
  exact ⟨rfl, rfl⟩
set_option maxHeartbeats 400000 in
theorem turns_S0 (x : BitVec 32) (w : World) :
    Calls Tryz.prog 165 #[.int .u32 (U x), .int .i64 2, .int .i64 13, .int .i64 22] w fun e w' => e = .returned (.int .u32 (U (S0 x))) ∧ w = w' := by
  have h4 := U_xor
  go_enter Tryz.func165, Tryz.ntmps165
  go_wp2_with (go_at_call 171; refine (rot_by _ _ _ (by omega)).mono ?_; rintro e w' ⟨rfl, rfl⟩)
  go_ret
  exact ⟨rfl, rfl⟩
theorem quiet_same {P : Program} {f : FuncId} {args : Array Value} {w : World} {n : Nat} {v : Value}
    (h : Calls P f args (w.drewN n) fun e w' => e = .returned v ∧ w.drewN n = w') : Calls P f args (w.drewN n) fun e w'' => e = .returned v ∧ ∃ m, w'' = w.drewN m :=
  h.mono fun _ _ ⟨he, hm⟩ => ⟨he, n, hm.symm⟩

set_option maxHeartbeats 400000 in
theorem shift_any (i j k : Int) (x : BitVec 32) (w : World) (hi : 1 ≤ i ∧ i ≤ 31) (hj : 1 ≤ j ∧ j ≤ 31) (hk : 1 ≤ k ∧ k ≤ 31) :
    Calls Tryz.prog 170 #[.int .u32 (U x), .int .i64 i, .int .i64 j, .int .i64 k] w fun e w' => e = .returned (.int .u32 (U (sft x i j k))) ∧ ∃ n, w' = w.drewN n := by
  have h4 := U_xor
  have e3 : min k.toNat 32 = k.toNat := by omega
  have e0 : 0 ≤ k := by omega
  have h3 := U_shr x k.toNat (2 ^ k.toNat) (by simp)
  have e1 : IntKind.i64.wrap (-i) = -i := IntWalk.i64_in _ (by omega)
  have e2 : IntKind.i64.wrap (-j) = -j := IntWalk.i64_in _ (by omega)
  have e4 : - -i = i := by omega
  have e5 : - -j = j := by omega
  go_enter Tryz.func170, Tryz.ntmps170
  go_wp2
  go_quiet ((go_at_call 171; exact quiet_same (rot_by _ _ _ (by omega))))
  go_wp2
  go_ret
  exact ⟨rfl, _, rfl⟩

/-- The four bytes of a word. -/
def bytes4 (x : BitVec 32) : List Int := [U (x >>> 24) % 256, U (x >>> 16) % 256, U (x >>> 8) % 256, U x % 256]
set_option maxHeartbeats 400000 in
theorem four_any (x : BitVec 32) (w : World) :
    Calls Tryz.prog 166 #[.int .u32 (U x)] w fun e w' => e = .returned (.string (strOfNums (bytes4 x))) ∧ Below w.heap.size w w' := by
  have h1 := U_shr x 24 16777216 (by decide)
  have h2 := U_shr x 16 65536 (by decide)
  have h3 := U_shr x 8 256 (by decide)
  have hb := run_convert_bytes_arg (P := Tryz.prog) (w.alloc (Obj.cells
              #[Value.int IntKind.u8 (U (x >>> 24) % 256), Value.int IntKind.u8 (U (x >>> 16) % 256),
                Value.int IntKind.u8 (U (x >>> 8) % 256), Value.int IntKind.u8 (U x % 256)] 5)) 63 5 Tryz.underlying63 Tryz.underlying5 w.heap.size 0 4 4 (bytes4 x) rfl
      (fun i hi => by
        obtain rfl | rfl | rfl | rfl : i = 0 ∨ i = 1 ∨ i = 2 ∨ i = 3 := by omega
        all_goals simp [bytes4, World.cell?_alloc_at]) 9 Tryz.underlying9
  go_enter Tryz.func166, Tryz.ntmps166
  go_wp2
  go_ret
  exact ⟨rfl, (Below.refl _ _).alloc (Nat.le_refl _) _⟩
set_option maxHeartbeats 400000 in
theorem first_any (w : World) :
    Calls Tryz.prog 163 #[] w fun e w' => e = .returned (.agg (first8.map (fun x => Value.int .u32 (U x))).toArray) ∧ w' = w.alloc (Obj.cells (first8.map (fun x => Value.int .u32 (U x))).toArray 166) := by
  have e : (first8.map (fun x => Value.int .u32 (U x))).toArray =  #[Value.int IntKind.u32 1779033703, Value.int IntKind.u32 3144134277, Value.int IntKind.u32 1013904242,
          Value.int IntKind.u32 2773480762, Value.int IntKind.u32 1359893119, Value.int IntKind.u32 2600822924,
          Value.int IntKind.u32 528734635, Value.int IntKind.u32 1541459225] := by kernel_rfl
  rw [e]
  clear e
  go_enter Tryz.func163, Tryz.ntmps163
  go_wp2
  refine bodyPost_ret (v := .agg #[Value.int IntKind.u32 1779033703, Value.int IntKind.u32 3144134277, Value.int IntKind.u32 1013904242,
          Value.int IntKind.u32 2773480762, Value.int IntKind.u32 1359893119, Value.int IntKind.u32 2600822924,
          Value.int IntKind.u32 528734635, Value.int IntKind.u32 1541459225]) ?_ rfl ⟨rfl, rfl⟩
  simp [results, Tryz.results163, go_sem]
end Go.Proofs.YthkfefkcjcgfkaaGreatDoor

namespace Go.Proofs.YthkfefkcjcgfkaaGreatDoor
open Go

section
variable {P : Program} {ops : Array Oper} {md : Region.Mode} {C : World → Prop}

/-- Whatever order is picked of the first n operations; at its end L holds. -/
def headQ (P : Program) (md : Region.Mode) (ops : Array Oper) (C : World → Prop) (n : Nat) (L : Array Bool → Act → Prop) : Nat → Array Bool → Act → Prop
  | 0, listed, a => L listed a
  | f + 1, listed, a => Region.ready md ops listed ≠ [] ∧ ∀ i ∈ Region.ready md ops listed, i < n ∧ qOp P ops C i (headQ P md ops C n L f (listed.setIfInBounds i true)) a

theorem any_of_headQ {n g : Nat} {L : Array Bool → Act → Prop} {Q' : Exit → Act → World → Prop} (hL : ∀ listed a w, C w → L listed a → wpAny P md ops Q' g listed a w) :
    ∀ (f : Nat) (listed : Array Bool) (a : Act) (w : World), C w → headQ P md ops C n L f listed a → wpAny P md ops Q' (f + g) listed a w
  | 0, listed, a, w, hw, h => by rw [Nat.zero_add]; exact hL _ _ _ hw h
  | f + 1, listed, a, w, hw, h => by
    rw [show f + 1 + g = (f + g) + 1 by omega]
    exact ⟨fun h0 => absurd h0 h.1, fun i hi => wpOp_of_qOp hw (fun a' w' hw' h' => any_of_headQ hL f _ a' w' hw' h') (h.2 i hi).2⟩

theorem headQ_first {n i : Nat} {oi : Oper} {v : Value} {L : Array Bool → Act → Prop} (hi : ops[i]? = some oi) (hsel : ∀ (j : Nat) (o : Oper) cs b, ops[j]? = some o → o.op ≠ .select cs b)
    (hs : Region.sinkB md ops n = true) (hc : Region.chainB md ops n = true) (hn : n < ops.size) (hin : i < n)
    (hdone : ∀ listed a, L listed a → ∀ j ∈ Region.ready md ops listed, n ≤ j) :
    ∀ (f : Nat) (listed : Array Bool) (a : Act), HeadInv md ops n listed →
      (∀ j oj, ops[j]? = some oj → j ≠ i → listed.getD j true = false → (∀ e ∈ oj.after, Region.binds md e = true → e.on ≠ i) → oi.apart ops oj = true) →
      i ∈ Region.ready md ops listed → YieldsIn P ops C oi v a →
      headQ P md ops C n L f (listed.setIfInBounds i true) (a.put oi.dst v) → headQ P md ops C n L (f + 1) listed a := by
  intro f
  induction f with
  | zero =>
    intro listed a inv _ hr hy H
    have hun := (mem_ready.1 hr).1
    refine ⟨fun h => (by rw [h] at hr; cases hr), fun j hj => ?_⟩
    have hjn : j < n := by
      rcases Nat.lt_or_ge j n with h | h
      · exact h
      · exact absurd hj (tail_waits hs hc hn inv _ i rfl hin hun j h)
    refine ⟨hjn, ?_⟩
    by_cases hji : j = i
    · subst hji; exact hy.qOp hi H
    · have := hdone _ _ H j (ready_mono hj hji)
      omega
  | succ f ih =>
    intro listed a inv hfree hr hy H
    have hun := (mem_ready.1 hr).1
    refine ⟨fun h => (by rw [h] at hr; cases hr), fun j hj => ?_⟩
    have hjn : j < n := by
      rcases Nat.lt_or_ge j n with h | h
      · exact h
      · exact absurd hj (tail_waits hs hc hn inv _ i rfl hin hun j h)
    refine ⟨hjn, ?_⟩
    by_cases hji : j = i
    · subst hji; exact hy.qOp hi H
    · have h1 := (H.2 j (ready_mono hj hji)).2
      obtain ⟨hjun, oj, hoj, hall⟩ := mem_ready.1 hj
      have hnot : ∀ e ∈ oj.after, Region.binds md e = true → e.on ≠ i := fun e he hb heq => by
        have h1 := hall e he hb
        rw [heq, getD_both hun] at h1
        cases h1
      have h2 := qOp_put hoj (hfree j oj hoj hji hjun hnot) (fun cs b => hsel i oi cs b hi) (fun cs b => hsel j oj cs b hoj) hy h1
      have hfree' : ∀ k ok, ops[k]? = some ok → k ≠ i → (listed.setIfInBounds j true).getD k true = false →
          (∀ e ∈ ok.after, Region.binds md e = true → e.on ≠ i) → oi.apart ops ok = true := fun k ok hk hki hun hno => by
        refine hfree k ok hk hki ?_ hno
        by_cases hjk : j = k
        · subst hjk; exact hjun
        · rw [getD_set_ne true hjk] at hun; exact hun
      refine qOp_mono (fun a' h3 => ih (listed.setIfInBounds j true) a' (inv.set hj hjn) hfree' (ready_mono hr (Ne.symm hji)) h3.1 ?_) h2
      rw [Array.setIfInBounds_comm _ _ hji]
      exact h3.2

theorem headQ_lex {n g : Nat} {Lq : Act → Prop} (hsel : Region.noSelect ops = true) (hs : Region.sinkB md ops n = true) (hc : Region.chainB md ops n = true) (hn : n < ops.size) :
    ∀ (l : List Oper) (k : Nat) (listed : Array Bool) (a : Act), (∀ j, j < l.length → l[j]? = ops[k + j]?) → k + l.length = n → HeadInv md ops n listed →
    Region.lexHead md ops g l.length k listed = true → wpQuiet P ops C Lq l a →
    headQ P md ops C n (fun listed' a' => Region.seqB md ops g n listed' = true ∧ Lq a') l.length listed a
  | [], k, listed, a, _, hk, _, hB, h => by
    have : k = n := by simpa using hk
    subst this
    exact ⟨by simpa [Region.lexHead] using hB, h⟩
  | o :: l, k, listed, a, hl, hk, inv, hB, h => by
    have h0 : ops[k]? = some o := by simpa using (hl 0 (by simp)).symm
    simp only [List.length_cons, Region.lexHead, Bool.and_eq_true] at hB
    obtain ⟨⟨hr, hf⟩, hB'⟩ := hB
    have hkn : k < n := by simp only [List.length_cons] at hk; omega
    have hr' : k ∈ Region.ready md ops listed := by simpa using hr
    have hst : qOp P ops C k (wpQuiet P ops C Lq l) a := by unfold qOp; simp only [h0]; exact h
    obtain ⟨v, hy, hK⟩ := yieldsIn_of_qOp h0 hst
    exact headQ_first h0 (Region.noSelect_spec hsel) hs hc hn hkn (fun listed' a' hL => seqB_ready hL.1) l.length listed a inv (Region.free_spec h0 hf) hr' hy
      (headQ_lex hsel hs hc hn l (k + 1) _ _ (fun j hj => by have := hl (j + 1) (by simp; omega); simpa [Nat.add_assoc, Nat.add_comm 1 j] using this) (by simp only [List.length_cons] at hk; omega) (inv.set hr' hkn) hB' hK)

/-- The region: its first n operations quiet in the class C, the rest walked behind them in any world of the class. -/
theorem region_quiet_tail {id : Nat} {Q : Exit → Act → World → Prop} {a : Act} {w : World} {l : List Oper} (n : Nat) (hm : P.follows .mixedOrders = true) (hB : Region.lexTailB .any l.toArray n = true)
    (hC : C { w with drawn := w.drawn + 1 })
    (h : wpQuiet P l.toArray C (fun a' => ∀ w', C w' → wpList P l.toArray Q (l.drop n) a' w') (l.take n) a) : (Code.region id l.toArray true).wp P Q a w := by
  simp only [Region.lexTailB, Bool.and_eq_true, decide_eq_true_eq] at hB
  obtain ⟨⟨⟨⟨hsel, hn⟩, hs⟩, hc⟩, hlex⟩ := hB
  have hn' : n < l.length := by simpa using hn
  have htl : (l.take n).length = n := by simp; omega
  have hdl : (l.drop n).length = l.toArray.size - n := by simp
  have inv0 : HeadInv .any l.toArray n (Array.replicate l.toArray.size false) :=
    ⟨by simp, fun j oj _ hl => (by rw [getD_replicate_false] at hl; cases hl), fun t _ ht => getD_in (by simpa using ht) (getD_replicate_false _ _)⟩
  have H := headQ_lex (C := C) (md := .any) (g := l.toArray.size - n) hsel hs hc hn (l.take n) 0 _ a (fun j hj => by
    have hj' : j < n := by rw [htl] at hj; exact hj
    simp [hj']) (by simpa using htl) inv0 (by rw [htl]; exact hlex) h
  refine wp_region_any hm ?_
  have := any_of_headQ (Q' := Q) (g := l.toArray.size - n) (fun listed a' w' hw' hL => by
    have := wpAny_of_seq (md := .any) (Q' := Q) (l.drop n) n listed a' w' (fun j => by simp [List.getElem?_drop]) (by rw [hdl]; exact hL.1) (hL.2 w' hw')
    rwa [hdl] at this) _ _ _ _ hC H
  rw [htl, show n + (l.toArray.size - n) = l.toArray.size by omega] at this
  exact this

/-- The same at the class 'w after some draws'. -/
theorem region_quiet_tail_lit {id : Nat} {Q : Exit → Act → World → Prop} {a : Act} {w : World} {l : List Oper} (n : Nat) (hm : P.follows .mixedOrders = true) (hB : Region.lexTailB .any l.toArray n = true)
    (h : wpQuiet P l.toArray (fun w' => ∃ n, w' = w.drewN n) (fun a' => ∀ w', (∃ n, w' = w.drewN n) → wpList P l.toArray Q (l.drop n) a' w') (l.take n) a) : (Code.region id l.toArray true).wp P Q a w :=
  region_quiet_tail (C := fun w' => ∃ n, w' = w.drewN n) n hm hB ⟨1, rfl⟩ h
end
end Go.Proofs.YthkfefkcjcgfkaaGreatDoor

namespace Go.Proofs.YthkfefkcjcgfkaaGreatDoor
open Go.RowKit

set_option maxHeartbeats 4000000 in
set_option maxRecDepth 100000 in
theorem spread_any (wb b o : Nat) (l : List UInt8) (w : World) (t0 : TypeId) (hne : wb ≠ b)
    (hw : Blk w wb (wcells 64 []) t0) (hc : ∀ i, i < 64 → w.cell? ⟨b, o + i, none⟩ = some (.int .u8 (Y (l.getD i 0)))) :
    Calls Tryz.prog 164 #[.pointer (some ⟨wb, 0, none⟩), .pointer (some ⟨b, o, none⟩)] w fun e w' => e = .returned (.tuple #[]) ∧ Blk w' wb (wcells 64 (schedTo l 64)) t0 ∧ Save w.heap.size wb w w' := by
  go_enter Tryz.func164, Tryz.ntmps164
  go_wp2
  go_loopw [4, 5, 7] (fun _ _ q wr => ∃ k : Nat, k ≤ 16 ∧ q = .int .i64 k ∧ Blk wr wb (wcells 64 (schedTo l k)) t0 ∧ Save w.heap.size wb w wr) (fun _ _ q _ => 16 - (intOf q).toNat)
  case atStart => exact ⟨0, by omega, rfl, hw, Save.refl _ _ _⟩
  case round =>
    obtain ⟨k, hk, rfl, hW, hS⟩ := hrel
    have hbb : b < w.heap.size := block_lt_of_cell (hc 0 (by omega))
    have hfz := hW.free k
    by_cases hlt : k < 16
    · have hst : wr.cell? ⟨wb, k, none⟩ = some (.int .u32 0) := by
        rw [hW.cell]; exact wcells_zero 64 _ k (schedTo_length l k) (by omega)
      have hr : ∀ i, i < 64 → wr.cell? ⟨b, o + i, none⟩ = some (.int .u8 (Y (l.getD i 0))) := fun i hi => by
        rw [hS.cell (p := ⟨b, o + i, none⟩) hbb (fun h => hne h.symm)]; exact hc i hi
      obtain ⟨y0, hy0⟩ : ∃ y, l.getD (4 * k) 0 = y := ⟨_, rfl⟩
      obtain ⟨y1, hy1⟩ : ∃ y, l.getD (4 * k + 1) 0 = y := ⟨_, rfl⟩
      obtain ⟨y2, hy2⟩ : ∃ y, l.getD (4 * k + 2) 0 = y := ⟨_, rfl⟩
      obtain ⟨y3, hy3⟩ : ∃ y, l.getD (4 * k + 3) 0 = y := ⟨_, rfl⟩
      have c0 := hr (4 * k) (by omega)
      have c1 := hr (4 * k + 1) (by omega)
      have c2 := hr (4 * k + 2) (by omega)
      have c3 := hr (4 * k + 3) (by omega)
      rw [hy0] at c0; rw [hy1] at c1; rw [hy2] at c2; rw [hy3] at c3
      have HY : Hid (wordAt l k = y0.toBitVec.setWidth 32 <<< 24 ||| y1.toBitVec.setWidth 32 <<< 16 ||| y2.toBitVec.setWidth 32 <<< 8 ||| y3.toBitVec.setWidth 32) := by
        show _ = _
        simp only [wordAt, byteAt, hy0, hy1, hy2, hy3]
      clear hr hy0 hy1 hy2 hy3 hc
      go_wp2
      have ux := Y_wrap
      have uo := U_or
      have us1 := fun a => U_shl a 24 16777216 (by decide)
      have us2 := fun a => U_shl a 16 65536 (by decide)
      have us3 := fun a => U_shl a 8 256 (by decide)
      refine region_quiet_tail_lit 37 (by kernel_rfl) (by kernel_rfl) ?_
      simp only [List.take_succ_cons, List.take_zero, List.drop_succ_cons, List.drop_zero]
      repeat (go_big_quiet_step (fail))
      refine wpQuiet_nil ?_
      intro _ hw'
      obtain ⟨nq, hw''⟩ := hw'
      subst hw''
      go_wp2
      have hS' := hS.drewN nq
      have hm : 16 - (intOf (Value.int IntKind.i64 (↑k + 1))).toNat < 16 - (intOf (Value.int IntKind.i64 ↑k)).toNat := by simp [intOf]; omega
      refine ⟨⟨k + 1, by omega, by go_num, ?_, ?_⟩, hm⟩
      rotate_left
      · exact hS'.setCell (.inl rfl) _
      exact blk_low l k _ hlt HY.out hW
    · obtain rfl : k = 16 := by omega
      clear hfz hlt hk hc
      go_wp2
      go_loopw [6] (fun q wr => ∃ k : Nat, 16 ≤ k ∧ k ≤ 64 ∧ q = .int .i64 k ∧ Blk wr wb (wcells 64 (schedTo l k)) t0 ∧ Save w.heap.size wb w wr) (fun q _ => 64 - (intOf q).toNat)
      case atStart => exact ⟨16, by omega, by omega, rfl, hW, hS⟩
      case round =>
        clear hW hS
        rename_i wq
        obtain ⟨k, hk0, hk, rfl, hW, hS⟩ := hrel
        by_cases hlt : k < 64
        · obtain ⟨m, rfl⟩ : ∃ m, k = m + 16 := ⟨k - 16, by omega⟩
          have hfz := hW.free (m + 16)
          have hst := hW.cell (m + 16)
          rw [wcells_zero 64 _ _ (schedTo_length l (m + 16)) (by omega)] at hst
          have c0 := hW.cell m
          rw [wcells_get' 64 _ _ _ (schedTo_length l (m + 16)) (by omega)] at c0
          have c1 := hW.cell (m + 1)
          rw [wcells_get' 64 _ _ _ (schedTo_length l (m + 16)) (by omega)] at c1
          have c2 := hW.cell (m + 9)
          rw [wcells_get' 64 _ _ _ (schedTo_length l (m + 16)) (by omega)] at c2
          have c3 := hW.cell (m + 14)
          rw [wcells_get' 64 _ _ _ (schedTo_length l (m + 16)) (by omega)] at c3
          have HS := sched_high l m
          rw [s0_sft, s1_sft] at HS
          replace HS := Lib.hid HS
          generalize (schedTo l (m + 16)).getD m 0 = x0 at c0 HS
          generalize (schedTo l (m + 16)).getD (m + 1) 0 = x1 at c1 HS
          generalize (schedTo l (m + 16)).getD (m + 9) 0 = x2 at c2 HS
          generalize (schedTo l (m + 16)).getD (m + 14) 0 = x3 at c3 HS
          go_wp2
          have ua := U_add
          refine region_quiet_tail_lit 33 (by kernel_rfl) (by kernel_rfl) ?_
          simp only [List.take_succ_cons, List.take_zero, List.drop_succ_cons, List.drop_zero]
          repeat (go_big_quiet_step ((go_at_call 170; exact Calls.quiet_of (shift_any _ _ _ _ _ (by omega) (by omega) (by omega)))))
          refine wpQuiet_nil ?_
          intro _ hw'
          obtain ⟨nq, hw''⟩ := hw'
          subst hw''
          go_wp2
          have hS' := hS.drewN nq
          have hm : 64 - (intOf (Value.int IntKind.i64 (↑(m + 16) + 1))).toNat < 64 - (intOf (Value.int IntKind.i64 ↑(m + 16))).toNat := by simp [intOf]; omega
          refine ⟨⟨m + 16 + 1, by omega, by omega, by go_num, ?_, ?_⟩, hm⟩
          rotate_left
          · exact hS'.setCell (.inl rfl) _
          exact blk_high l m _ hlt HS.out hW
        · obtain rfl : k = 64 := by omega
          go_wp2
          go_end0
          exact ⟨rfl, hW, hS⟩
end Go.Proofs.YthkfefkcjcgfkaaGreatDoor

namespace Go.Proofs.YthkfefkcjcgfkaaGreatDoor
open Go.RowKit

/-- A fact in a box that nothing looks into. -/
structure Box (p : Prop) : Prop where
  out : p
/-- The second world is the first after some draws. -/
structure Drawn (w w' : World) : Prop where
  out : ∃ n, w' = w.drewN n
theorem Drawn.drewN {w w' : World} (h : Drawn w w') (n : Nat) : Drawn w (w'.drewN n) := by
  obtain ⟨m, rfl⟩ := h.out
  exact ⟨_, World.drewN_drewN _ _ _⟩
theorem Drawn.of2 (w : World) (n m : Nat) : Drawn w ((w.drewN n).drewN m) := ⟨_, World.drewN_drewN _ _ _⟩
theorem Drawn.blk {w w' : World} (h : Drawn w w') {b : Nat} {cs : List Value} {t : TypeId} (hb : Blk w b cs t) : Blk w' b cs t := by
  obtain ⟨m, rfl⟩ := h.out; exact hb
theorem Drawn.cell {w w' : World} (h : Drawn w w') (p : Addr) : w'.cell? p = w.cell? p := by
  obtain ⟨m, rfl⟩ := h.out; rfl
theorem Drawn.below {B : Nat} {w w' : World} (h : Drawn w w') : Below B w w' := by
  obtain ⟨m, rfl⟩ := h.out; exact ⟨rfl, rfl, rfl, Nat.le_refl _, fun _ _ => rfl⟩
theorem set8 {w : World} {b : Nat} {t0 : TypeId} {rest : List Value} (st : S8) (x0 x1 x2 x3 x4 x5 x6 x7 : BitVec 32) (h : Blk w b (st.cells ++ rest) t0) :
    Blk ((((((((w.setCell ⟨b, 0, none⟩ (.int .u32 (U x0))).setCell ⟨b, 1, none⟩ (.int .u32 (U x1))).setCell ⟨b, 2, none⟩ (.int .u32 (U x2))).setCell ⟨b, 3, none⟩ (.int .u32 (U x3))).setCell ⟨b, 4, none⟩ (.int .u32 (U x4))).setCell ⟨b, 5, none⟩ (.int .u32 (U x5))).setCell ⟨b, 6, none⟩ (.int .u32 (U x6))).setCell ⟨b, 7, none⟩ (.int .u32 (U x7)))
      b ((S8.mk x0 x1 x2 x3 x4 x5 x6 x7).cells ++ rest) t0 := by
  have := (((((((h.setCell 0 (.int .u32 (U x0))).setCell 1 (.int .u32 (U x1))).setCell 2 (.int .u32 (U x2))).setCell 3 (.int .u32 (U x3))).setCell 4 (.int .u32 (U x4))).setCell 5 (.int .u32 (U x5))).setCell 6 (.int .u32 (U x6))).setCell 7 (.int .u32 (U x7))
  simpa [S8.cells, S8.list] using this
theorem set8_save {w w0 : World} {b B : Nat} (h : Save B b w0 w) (x0 x1 x2 x3 x4 x5 x6 x7 : Value) :
    Save B b w0 ((((((((w.setCell ⟨b, 0, none⟩ x0).setCell ⟨b, 1, none⟩ x1).setCell ⟨b, 2, none⟩ x2).setCell ⟨b, 3, none⟩ x3).setCell ⟨b, 4, none⟩ x4).setCell ⟨b, 5, none⟩ x5).setCell ⟨b, 6, none⟩ x6).setCell ⟨b, 7, none⟩ x7) :=
  (((((((h.setCell (.inl rfl) _).setCell (.inl rfl) _).setCell (.inl rfl) _).setCell (.inl rfl) _).setCell (.inl rfl) _).setCell (.inl rfl) _).setCell (.inl rfl) _).setCell (.inl rfl) _
/-- These are a block's words. -/
structure SchedIs (l : List UInt8) (W : List (BitVec 32)) : Prop where
  eq : W = schedTo l 64
theorem SchedIs.len {l : List UInt8} {W : List (BitVec 32)} (h : SchedIs l W) : W.length = 64 := by rw [h.eq]; exact schedTo_length l 64

/-- After k rounds the eight words are these. -/
structure RoundsAre (W : List (BitVec 32)) (st : S8) (k : Nat) (a b c d e f g h : BitVec 32) : Prop where
  eq : rounds W st k = ⟨a, b, c, d, e, f, g, h⟩
theorem RoundsAre.zero (W : List (BitVec 32)) (st : S8) : RoundsAre W st 0 st.a st.b st.c st.d st.e st.f st.g st.h := ⟨rfl⟩
theorem RoundsAre.step {W : List (BitVec 32)} {st : S8} {k : Nat} {a b c d e f g h kt wt : BitVec 32} (H : RoundsAre W st k a b c d e f g h) (hk : Box (k64.getD k 0 = kt)) (hw : Box (W.getD k 0 = wt)) :
    RoundsAre W st (k + 1) (h + S1 e + ((e &&& f) ^^^ (~~~ e &&& g)) + kt + wt + (S0 a + ((a &&& b) ^^^ (a &&& c) ^^^ (b &&& c)))) a b c (d + (h + S1 e + ((e &&& f) ^^^ (~~~ e &&& g)) + kt + wt)) e f g := by
  obtain ⟨rfl⟩ := hk
  obtain ⟨rfl⟩ := hw
  constructor
  rw [rounds, H.eq]; rfl
theorem RoundsAre.comp {l : List UInt8} {W : List (BitVec 32)} {st : S8} {a b c d e f g h : BitVec 32} (hW : SchedIs l W) (H : RoundsAre W st 64 a b c d e f g h) :
    comp l st = ⟨st.a + a, st.b + b, st.c + c, st.d + d, st.e + e, st.f + f, st.g + g, st.h + h⟩ := by
  have e := H.eq
  rw [hW.eq] at e
  rw [Proofs.YthkfefkcjcgfkaaGreatDoor.comp, e]
end Go.Proofs.YthkfefkcjcgfkaaGreatDoor

namespace Go.Proofs.YthkfefkcjcgfkaaGreatDoor
open Go.RowKit

/-- The words k stand where the program keeps them. -/
def KIs (w : World) : Prop := ∀ i, i < 64 → w.cell? ⟨8, i, none⟩ = some (.int .u32 (U (k64.getD i 0)))
theorem KIs.lt {w : World} (h : KIs w) : 8 < w.heap.size := block_lt_of_cell (h 0 (by omega))
theorem KIs.below {B : Nat} {w w' : World} (h : KIs w) (hb : Below B w w') (hB : 8 < B) : KIs w' := fun i hi => by
  rw [hb.cell (p := ⟨8, i, none⟩) hB]; exact h i hi
theorem KIs.save {B b : Nat} {w w' : World} (h : KIs w) (hb : Save B b w w') (hB : 8 < B) (hn : b ≠ 8) : KIs w' := fun i hi => by
  rw [hb.cell (p := ⟨8, i, none⟩) hB hn.symm]; exact h i hi

theorem spread_new (b : Nat) (l : List UInt8) (st : S8) (rest : List Value) (w : World) (t0 : TypeId)
    (hb : Blk w b (st.cells ++ rest) t0) (hr : ∀ i, i < 64 → rest[i]? = some (.int .u8 (Y (l.getD i 0)))) (hK : KIs w) :
    Calls Tryz.prog 164 #[.pointer (some ⟨w.heap.size, 0, none⟩), .pointer (some ⟨b, 8, none⟩)] (w.alloc (.cells zeros64 188)) fun e w1 => e = .returned (.tuple #[]) ∧
      (∃ W, SchedIs l W ∧ Blk w1 w.heap.size (wcells 64 W) 188) ∧ Blk w1 b (st.cells ++ rest) t0 ∧ Below w.heap.size w w1 ∧ KIs w1 := by
  have hlt := hb.lt
  have hcb : ∀ i, i < 64 → w.cell? ⟨b, 8 + i, none⟩ = some (.int .u8 (Y (l.getD i 0))) := fun i hi => by
    rw [hb.cell, List.getElem?_append_right (by simp [S8.cells, S8.list])]
    have : (8 + i - st.cells.length) = i := by simp [S8.cells, S8.list]
    rw [this]; exact hr i hi
  have hcs : ∀ i, i < 64 → (w.alloc (.cells (wcells 64 []).toArray 188)).cell? ⟨b, 8 + i, none⟩ = some (.int .u8 (Y (l.getD i 0))) := fun i hi => by
    rw [World.cell?_alloc_past _ _ _ hlt]; exact hcb i hi
  have hW0 := Blk.new w (wcells 64 []) 188
  have hne : w.heap.size ≠ b := by omega
  have H1 := spread_any w.heap.size b 8 l _ 188 hne hW0 hcs
  rw [zeros64_eq] at H1
  refine H1.mono fun e w1 ⟨h0, h1, h2⟩ => ?_
  have h3 : Below w.heap.size w w1 := ((Below.refl _ w).alloc (Nat.le_refl _) _).trans ((h2.mono (by simp)).below (Nat.le_refl _))
  exact ⟨h0, ⟨_, ⟨rfl⟩, h1⟩, hb.below h3 hlt, h3, hK.below h3 hK.lt⟩

set_option maxHeartbeats 800000 in
set_option maxRecDepth 100000 in
theorem mix_any (b : Nat) (l : List UInt8) (st : S8) (rest : List Value) (w : World) (t0 : TypeId)
    (hb : Blk w b (st.cells ++ rest) t0) (hr : ∀ i, i < 64 → rest[i]? = some (.int .u8 (Y (l.getD i 0))))
    (hK : KIs w) :
    Calls Tryz.prog 157 #[.pointer (some ⟨b, 0, none⟩), .pointer (some ⟨b, 8, none⟩)] w fun e w' => e = .returned (.tuple #[]) ∧ Blk w' b ((comp l st).cells ++ rest) t0 ∧ Save w.heap.size b w w' := by
  have hlt := hb.lt
  go_enter Tryz.func157, Tryz.ntmps157
  go_wp2_with (go_at_call 164; refine (spread_new b l st rest w t0 hb hr hK).mono ?_; rintro e w1 ⟨rfl, ⟨W, hWW, hW1⟩, hb1, hB1, hK1⟩)
  have c0 := hb1.cell 0
  have c1 := hb1.cell 1
  have c2 := hb1.cell 2
  have c3 := hb1.cell 3
  have c4 := hb1.cell 4
  have c5 := hb1.cell 5
  have c6 := hb1.cell 6
  have c7 := hb1.cell 7
  simp only [S8.cells, S8.list, List.map_cons, List.cons_append, List.getElem?_cons_zero, List.getElem?_cons_succ] at c0 c1 c2 c3 c4 c5 c6 c7
  go_quiet (fail)
  go_wp2
  go_quiet (fail)
  go_wp2
  go_loopw [5, 6, 7, 8, 9, 10, 11, 12, 50] (fun s5 s6 s7 s8 s9 s10 s11 s12 q wr => ∃ (k : Nat) (a b c d e f g h : BitVec 32), k ≤ 64 ∧ q = .int .i64 k ∧ Drawn w1 wr ∧ RoundsAre W st k a b c d e f g h ∧
      s5 = .int .u32 (U a) ∧ s6 = .int .u32 (U b) ∧ s7 = .int .u32 (U c) ∧ s8 = .int .u32 (U d) ∧ s9 = .int .u32 (U e) ∧ s10 = .int .u32 (U f) ∧ s11 = .int .u32 (U g) ∧ s12 = .int .u32 (U h)) (fun _ _ _ _ _ _ _ _ q _ => 64 - (intOf q).toNat)
  case atStart => exact ⟨0, _, _, _, _, _, _, _, _, by omega, rfl, Drawn.of2 _ _ _, RoundsAre.zero W st, rfl, rfl, rfl, rfl, rfl, rfl, rfl, rfl⟩
  case round =>
    obtain ⟨k, a, b', c, d, e, f, g, h, hk, rfl, HD, HR, rfl, rfl, rfl, rfl, rfl, rfl, rfl, rfl⟩ := hrel
    by_cases hk64 : k < 64
    · have kk := hK1 k hk64
      rw [← HD.cell] at kk
      have ww := (HD.blk hW1).cell k
      rw [wcells_get' 64 _ _ _ hWW.len hk64] at ww
      obtain ⟨kt, hkt⟩ : ∃ x, k64.getD k 0 = x := ⟨_, rfl⟩
      obtain ⟨wt, hwt⟩ : ∃ x, W.getD k 0 = x := ⟨_, rfl⟩
      rw [hkt] at kk
      rw [hwt] at ww
      have HK := Box.mk hkt
      have HW := Box.mk hwt
      clear hkt hwt
      clear c0 c1 c2 c3 c4 c5 c6 c7 hW1 hK1 hb1 hB1 hb hr hK
      go_wp2_with fail
      have ua := U_add
      have ux := U_xor
      have un := U_and
      have uo := U_not
      have us : (if IntKind.u32.signed = true then (-1 : Int) else IntKind.u32.max) = 4294967295 := by decide
      go_quiet ((go_at_call 165; exact quiet_same (turns_S1 _ _)))
      go_wp2_with (go_at_call 165; refine (turns_S0 _ _).mono ?_; rintro e w' ⟨rfl, rfl⟩)
      have hm : 64 - (intOf (Value.int IntKind.i64 (↑k + 1))).toNat < 64 - (intOf (Value.int IntKind.i64 ↑k)).toNat := by simp [intOf]; omega
      exact ⟨⟨k + 1, _, _, _, _, _, _, _, _, by omega, by go_num, HD.drewN nq, HR.step HK HW, rfl, rfl, rfl, rfl, rfl, rfl, rfl, rfl⟩, hm⟩
    · obtain rfl : k = 64 := by omega
      have HB := Box.mk (HR.comp hWW)
      have hb2 := HD.blk hb1
      have hS2 : Save w.heap.size b w wr := Save.of_below (hB1.trans HD.below)
      clear hK1 hW1 hWW HR HD hB1 hb1 hr hK hb
      have z0 := hb2.cell 0
      have z1 := hb2.cell 1
      have z2 := hb2.cell 2
      have z3 := hb2.cell 3
      have z4 := hb2.cell 4
      have z5 := hb2.cell 5
      have z6 := hb2.cell 6
      have z7 := hb2.cell 7
      simp only [S8.cells, S8.list, List.map_cons, List.cons_append, List.getElem?_cons_zero, List.getElem?_cons_succ] at z0 z1 z2 z3 z4 z5 z6 z7
      clear c0 c1 c2 c3 c4 c5 c6 c7
      have f0 := hb2.free 0
      have f1 := hb2.free 1
      have f2 := hb2.free 2
      have f3 := hb2.free 3
      have f4 := hb2.free 4
      have f5 := hb2.free 5
      have f6 := hb2.free 6
      have f7 := hb2.free 7
      have ua := U_add
      have HB2 := Box.mk hb2
      have HS2 := Box.mk hS2
      clear hb2 hS2
      go_wp2_with fail
      go_region
      go_wp2_with fail
      go_region
      go_wp2_with fail
      go_region
      go_wp2_with fail
      go_region
      go_wp2_with fail
      go_region
      go_wp2_with fail
      go_region
      go_wp2_with fail
      go_region
      go_wp2_with fail
      go_region
      go_wp2_with fail
      go_end0
      refine ⟨rfl, ?_, ?_⟩
      · rw [HB.out]
        iterate 8 with_reducible apply Blk.drew
        with_reducible exact set8 st _ _ _ _ _ _ _ _ HB2.out
      · iterate 8 with_reducible apply Save.drew
        with_reducible exact set8_save HS2.out _ _ _ _ _ _ _ _
end Go.Proofs.YthkfefkcjcgfkaaGreatDoor

namespace Go.Proofs.YthkfefkcjcgfkaaGreatDoor
open Go Go.RowKit Go.ChangeShapes Go.WideShapes

section
variable {H : Type} {enc : TypeId × Value → H} {P : Program}
/-- Arguments that were read read the same behind a call that changed nothing that was there. -/
theorem all_below (hl : laidOutB P = true) {W W' : World} (hb : Below W.heap.size W W') (sp : Nat → Bool) : ∀ {ts : List TypeId} {vs : List Value} {ds : List (DataW H)} {ps : List MemPlace},
    (∀ t ∈ ts, P.readableRec t = true ∧ t < P.types.size) → DataW.TrodAll enc P W 0 (fun _ => true) true ts vs ds ps → (∀ p ∈ ps, p.block < W.heap.size) → (∀ p ∈ ps, sp p.block = true) →
    DataW.TrodAll enc P W' 0 sp true ts vs ds ps
  | [], vs, ds, ps, _, h, _, _ => by
    obtain ⟨rfl, rfl, rfl⟩ := trodAll_nil h
    rfl
  | t :: ts, vs, ds, ps, ht, h, hlt, hsp => by
    obtain ⟨v, vs', d, ds', p, q, rfl, rfl, rfl, h0, hr⟩ := trodAll_cons h
    have h1 := ht t (by simp)
    refine trodAll_cons_mk (WideElems.Trod_stays hl h1.1 h1.2 h0 (fun x hx => hb.same (hlt x (by simp [hx]))) (fun x hx => hsp x (by simp [hx]))) ?_
    exact all_below hl hb sp (fun t' h' => ht t' (by simp [h'])) hr (fun x hx => hlt x (by simp [hx])) (fun x hx => hsp x (by simp [hx]))

theorem law_post {f : Func} {s : ChangeSpec} {apart fresh handsOn again : Bool} {W W' : World} {args : Array Value} {ds gs : List (DataW H)} {before : List MemPlace} {tb : TypeId}
    (hl : laidOutB P = true) (hts : ∀ t ∈ f.params.toList, P.readableRec t = true ∧ t < P.types.size) (hv : s.vars = [])
    (hW : DataW.Whole enc P f.params.toList s.vars apart W args.toList ds gs before)
    (hfn : s.fn H (ds ++ gs) = { results := [.lit (.bool true)], args := ds, vars := [] })
    (hres : f.resultTypes = #[tb]) (hu : P.underlying tb = some .bool) (hb : Below W.heap.size W W') :
    s.post enc P f apart fresh handsOn again W args (.bool true) W' := by
  have hlt : ∀ p ∈ before, p.block < W.heap.size := fun p hp => hW.lt p hp
  have hW0 := hW
  obtain ⟨p, q, hA, hV, rfl, hz, hn⟩ := hW
  rw [hv] at hV
  obtain ⟨rfl, rfl⟩ := trodVars_none hV
  simp only [List.append_nil] at *
  have hold : ∀ x ∈ p, (fun b => decide (b < W.heap.size)) x.block = true := fun x hx => by simpa using hlt x hx
  have hR : ∀ (b : Nat) (sp : Nat → Bool) (hd : Bool), DataW.TrodAll enc P W' b sp hd f.resultTypes.toList ((Value.bool true).resultList f.resultTypes.size) [.lit (.bool true)] [] := fun b sp hd => by
    rw [hres]; exact trodAll_cons_mk (shut_bool hu _) trodAll_mk0
  refine ⟨ds, [], p, [], p, [], by simpa using hW0, ?_, ?_, ?_, World.keptBut_mono (fun x hx => ⟨hx, Or.inr (Or.inl hx)⟩) (hb.frame (· ∈ p)), fun _ => ?_⟩
  · rw [List.append_nil, hfn]; exact hR _ _ _
  · rw [List.append_nil, hfn]; exact all_below hl hb _ hts hA hlt hold
  · rw [List.append_nil, hfn, hv]; rfl
  · refine ⟨ok_one hres rfl (okWide_bool_mk hu _), [.lit (.bool true)] ++ ds, [], p, ⟨p, [], ?_, ?_, by simp, ?_, hn⟩, fun x hx _ => hx⟩
    · have h1 := hR 0 (fun _ => true) true
      have h2 := all_below hl hb (fun _ => true) hts hA hlt (fun _ _ => rfl)
      rw [hres]
      exact ⟨[], p, shut_bool hu _, h2, rfl⟩
    · rw [hv]; rfl
    · intro b off hp
      rw [hb.frozen (p := ⟨b, off, none⟩) (hlt _ hp)]
      exact hz b off hp
end
end Go.Proofs.YthkfefkcjcgfkaaGreatDoor

namespace Go.Proofs.YthkfefkcjcgfkaaGreatDoor
open Go.RowKit

/-- A byte as a cell. -/
def yc (x : UInt8) : Value := .int .u8 (Y x)
/-- A row with other cells laid over it from a place on. -/
def spl {α : Type} (L : List α) (off : Nat) (cs : List α) : List α := L.take off ++ (cs ++ L.drop (off + cs.length))
theorem spl_length {α : Type} (L : List α) (off : Nat) (cs : List α) (h : off + cs.length ≤ L.length) : (spl L off cs).length = L.length := by
  simp [spl]; omega

theorem run_copy_str {P : Program} (w : World) (dT sT ty elem : TypeId) (g o dLen dCap : Nat) (s : ByteArray) (cur : List Value) (t : TypeId)
    (hu : P.underlying dT = some (.slice elem)) (hs : (P.info? elem).map (·.size) = some 1) (hg : Blk w g cur t) (hfit : o + Nat.min s.size dLen ≤ cur.length) :
    (Builtin.copy_ #[dT, sT] ty #[.slice (some ⟨g, o, none⟩) dLen dCap, .string s]).run P w =
      .ok (goInt (Nat.min s.size dLen)) (w.setRow g (spl cur o ((s.data.toList.take (Nat.min s.size dLen)).map yc)).toArray) := by
  have hn : Nat.min s.size dLen ≤ s.size := Nat.min_le_left _ _
  generalize hm : Nat.min s.size dLen = n at *
  have hlen : ((s.data.toList.take n).map yc).length = n := by
    have : s.data.toList.length = s.size := by rw [Array.length_toList]; rfl
    rw [List.length_map, List.length_take, this]; omega
  have hst := run_storeCells_at P g o t ((s.data.toList.take n).map yc) 0 cur.toArray w hg (by rw [hlen]; simpa using hfit) (by
    intro v hv; simp only [List.mem_map] at hv; obtain ⟨x, _, rfl⟩ := hv; rfl)
  rw [hlen] at hst
  simp only [Nat.add_zero] at hst
  cases hq : P.info? elem with
  | none => simp [hq] at hs
  | some i =>
    have htk : List.take n (List.map (fun b : UInt8 => Value.int IntKind.u8 (b.toNat : Int)) s.data.toList) = (s.data.toList.take n).map yc := by
      rw [← List.map_take]; rfl
    have e : spl cur o ((s.data.toList.take n).map yc) = cur.take o ++ ((s.data.toList.take n).map yc ++ cur.drop (o + n)) := by rw [spl, hlen]
    rw [e]
    simp [Builtin.copy_, run_underlying hu, Builtin.lenOf, Builtin.firstCells, sizeOf, typeInfo, hq, hm]
    rw [htk, hst]
    simp [Result.andThen]

theorem run_store_row {P : Program} {w : World} {g o : Nat} {cur : List Value} {t : TypeId} (hg : Blk w g cur t) (vs : List Value) (hfit : o + vs.length ≤ cur.length) (h1 : ∀ v ∈ vs, v.oneCell' = true) :
    (storeCells ⟨g, o, none⟩ vs).run P w = .ok () (w.setRow g (spl cur o vs).toArray) := by
  have := run_storeCells_at P g o t vs 0 cur.toArray w hg (by simpa using hfit) h1
  simp only [Nat.add_zero] at this
  rw [this]; simp [spl]
theorem words_one (l : List (BitVec 32)) : ∀ v ∈ l.map fun x => Value.int .u32 (U x), v.oneCell' = true := by
  intro v hv; simp only [List.mem_map] at hv; obtain ⟨x, _, rfl⟩ := hv; rfl
theorem setRow_blk {w : World} {g : Nat} {cur : List Value} {t : TypeId} (hg : Blk w g cur t) (cs : List Value) : Blk (w.setRow g cs.toArray) g cs t := setRow_heap w g _ _ t _ hg
theorem setRow_save (w : World) (B g : Nat) (cs : Array Value) : Save B g w (w.setRow g cs) := ⟨rfl, rfl, rfl, by simp [World.setRow], fun k _ hn => setRow_other w g k cs hn⟩

theorem wpList_copy_str {P : Program} {w : World} {ops : Array Oper} {rest : List Oper} {o : Oper} {a : Act} {Q : Exit → Act → World → Prop} (hgd : o.guard = none) (d s : Operand) (dT sT : TypeId)
    (ho : o.op = .call { callee := .builtin .copy, args := #[d, s], argTypes := #[dT, sT] }) (elem : TypeId) (hu : P.underlying dT = some (.slice elem)) (hsz : (P.info? elem).map (·.size) = some 1)
    (g off dLen dCap : Nat) (str : ByteArray) (hd : a.eval d = .slice (some ⟨g, off, none⟩) dLen dCap) (hs : a.eval s = .string str)
    (cur : List Value) (t : TypeId) (hg : Blk w g cur t) (hfit : off + Nat.min str.size dLen ≤ cur.length)
    (h : ∀ w', Box (Blk w' g (spl cur off ((str.data.toList.take (Nat.min str.size dLen)).map yc)) t) → Box (∀ B, Save B g w w') → wpList P ops Q rest (a.put o.dst (goInt (Nat.min str.size dLen))) w') :
    wpList P ops Q (o :: rest) a w := by
  refine wpList_plain hgd fun K hK => ?_
  have hrun := run_copy_str (P := P) w dT sT o.type elem g off dLen dCap str cur t hu hsz hg hfit
  generalize (str.data.toList.take (Nat.min str.size dLen)).map yc = X at hrun h
  unfold Oper.wp
  simp [execOp, ho, resolve, invoke, builtin, hd, hs, hrun, Result.andThen]
  exact hK _ _ (h _ ⟨setRow_blk hg _⟩ ⟨fun B => setRow_save w B g _⟩)

/-! ### A digest's cells -/
def dcells (st : S8) (bl : List UInt8) (n : Nat) : List Value := st.cells ++ (bl.map yc ++ [.int .i64 (n : Int)])
theorem S8.cells_length (st : S8) : st.cells.length = 8 := rfl
theorem dcells_length (st : S8) (bl : List UInt8) (n : Nat) (h : bl.length = 64) : (dcells st bl n).length = 73 := by
  simp [dcells, S8.cells_length, h]
theorem dcells_size (st : S8) (bl : List UInt8) (n : Nat) (h : bl.length = 64) : (dcells st bl n)[72]? = some (.int .i64 (n : Int)) := by
  rw [dcells, List.getElem?_append_right (by rw [S8.cells_length]; omega), List.getElem?_append_right (by simp [S8.cells_length, h])]
  simp [S8.cells_length, h]
theorem dcells_set (st : S8) (bl : List UInt8) (n m : Nat) (h : bl.length = 64) : (dcells st bl n).set 72 (.int .i64 (m : Int)) = dcells st bl m := by
  rw [dcells, List.set_append_right _ _ (by rw [S8.cells_length]; omega), List.set_append_right _ _ (by simp [S8.cells_length, h])]
  simp [S8.cells_length, h, dcells]
theorem dcells_block (bl : List UInt8) (n i : Nat) (h : bl.length = 64) (hi : i < 64) : (bl.map yc ++ [Value.int .i64 (n : Int)])[i]? = some (.int .u8 (Y (bl.getD i 0))) := by
  rw [List.getElem?_append_left (by simp [h]; exact hi)]
  simp [List.getD, h, hi, yc]
theorem dcells_spl (st : S8) (bl : List UInt8) (N u : Nat) (s : List UInt8) (h : bl.length = 64) (hu : u + s.length ≤ 64) : spl (dcells st bl N) (8 + u) (s.map yc) = dcells st (spl bl u s) N := by
  have h1 : (dcells st bl N).take (8 + u) = st.cells ++ (bl.take u).map yc := by
    rw [dcells, List.take_append, S8.cells_length, List.take_of_length_le (by rw [S8.cells_length]; omega), show 8 + u - 8 = u by omega, List.take_append_of_le_length (by simp [h]; omega), List.map_take]
  have h2 : (dcells st bl N).drop (8 + u + s.length) = (bl.drop (u + s.length)).map yc ++ [.int .i64 (N : Int)] := by
    rw [dcells, List.drop_append, S8.cells_length, List.drop_of_length_le (by rw [S8.cells_length]; omega), show 8 + u + s.length - 8 = u + s.length by omega, List.drop_append_of_le_length (by simp [h]; omega), List.map_drop]
    rfl
  rw [spl, List.length_map, h1, h2, dcells, spl]
  simp [List.append_assoc]
end Go.Proofs.YthkfefkcjcgfkaaGreatDoor

namespace Go.Proofs.YthkfefkcjcgfkaaGreatDoor
open Go.RowKit

def first : S8 := ⟨0x6a09e667, 0xbb67ae85, 0x3c6ef372, 0xa54ff53a, 0x510e527f, 0x9b05688c, 0x1f83d9ab, 0x5be0cd19⟩
def blockAt (m : List UInt8) (k : Nat) : List UInt8 := (m.drop (64 * k)).take 64
def stateAt (m : List UInt8) : Nat → S8
  | 0 => first
  | k + 1 => comp (blockAt m k) (stateAt m k)
theorem blockAt_append (m s : List UInt8) (k : Nat) (h : 64 * (k + 1) ≤ m.length) : blockAt (m ++ s) k = blockAt m k := by
  unfold blockAt
  rw [List.drop_append_of_le_length (by omega), List.take_append_of_le_length (by rw [List.length_drop]; omega)]
theorem stateAt_append (m s : List UInt8) : ∀ k, 64 * k ≤ m.length → stateAt (m ++ s) k = stateAt m k
  | 0, _ => rfl
  | k + 1, h => by rw [stateAt, stateAt, blockAt_append m s k h, stateAt_append m s k (by omega)]

theorem dcells_first (st : S8) (bl : List UInt8) (n : Nat) : spl (dcells st bl n) 0 (first8.map fun x => Value.int .u32 (U x)) = dcells first bl n := rfl
/-- A digest's block holds the text c, its size being told as N. -/
structure DigAt (w : World) (b : Nat) (c : List UInt8) (N : Nat) : Prop where
  ex : ∃ (k u : Nat) (bl : List UInt8), c.length = 64 * k + u ∧ u < 64 ∧ bl.length = 64 ∧ bl.take u = c.drop (64 * k) ∧ Blk w b (dcells (stateAt c k) bl N) 169
/-- A digest was handed the text m. -/
structure DigIs (w : World) (b : Nat) (m : List UInt8) : Prop where
  ex : DigAt w b m m.length ∨ (m = [] ∧ ∃ st bl, bl.length = 64 ∧ Blk w b (dcells st bl 0) 169)
/-- The same, laid open. -/
structure DigK (w : World) (b : Nat) (c : List UInt8) (N k u : Nat) (bl : List UInt8) : Prop where
  len : c.length = 64 * k + u
  lt : u < 64
  full : bl.length = 64
  tail : bl.take u = c.drop (64 * k)
  blk : Blk w b (dcells (stateAt c k) bl N) 169
theorem DigAt.open {w : World} {b : Nat} {c : List UInt8} {N : Nat} (h : DigAt w b c N) : ∃ k u bl, DigK w b c N k u bl := by
  obtain ⟨k, u, bl, h1, h2, h3, h4, h5⟩ := h.ex
  exact ⟨k, u, bl, h1, h2, h3, h4, h5⟩
theorem DigK.shut {w : World} {b : Nat} {c : List UInt8} {N k u : Nat} {bl : List UInt8} (h : DigK w b c N k u bl) : DigAt w b c N := ⟨k, u, bl, h.len, h.lt, h.full, h.tail, h.blk⟩
theorem DigK.size {w : World} {b : Nat} {c : List UInt8} {N k u : Nat} {bl : List UInt8} (h : DigK w b c N k u bl) : w.cell? ⟨b, 72, none⟩ = some (.int .i64 (N : Int)) := by
  rw [h.blk.cell, dcells_size _ _ _ h.full]
theorem DigK.free {w : World} {b : Nat} {c : List UInt8} {N k u : Nat} {bl : List UInt8} (h : DigK w b c N k u bl) (i : Nat) : w.frozen? ⟨b, i, none⟩ = false := h.blk.free i
theorem DigK.resize {w : World} {b : Nat} {c : List UInt8} {N k u : Nat} {bl : List UInt8} (h : DigK w b c N k u bl) (M : Nat) : DigK (w.setCell ⟨b, 72, none⟩ (.int .i64 (M : Int))) b c M k u bl := by
  refine ⟨h.len, h.lt, h.full, h.tail, ?_⟩
  have := h.blk.setCell 72 (.int .i64 (M : Int))
  rwa [dcells_set _ _ _ _ h.full] at this
theorem DigAt.at_u {w : World} {b : Nat} {c : List UInt8} {N k u : Nat} (h : DigAt w b c N) (hc : c.length = 64 * k + u) (hu : u < 64) : ∃ bl, DigK w b c N k u bl := by
  obtain ⟨k', u', bl, H⟩ := h.open
  have := H.len; have := H.lt
  obtain rfl : k' = k := by omega
  obtain rfl : u' = u := by omega
  exact ⟨bl, H⟩
/-- What a copy leaves: the part is laid in. -/
theorem DigK.laid {w w' : World} {b : Nat} {c : List UInt8} {N k u n : Nat} {bl s : List UInt8} (h : DigK w b c N k u bl) (hn : (s.take n).length = n) (hs : u + n ≤ 64)
    (hB : Blk w' b (spl (dcells (stateAt c k) bl N) (8 + u) ((s.take n).map yc)) 169) : Blk w' b (dcells (stateAt c k) (spl bl u (s.take n)) N) 169 := by
  rwa [dcells_spl _ _ _ _ _ h.full (by omega)] at hB
theorem DigIs.empty {w : World} {b : Nat} (h : DigIs w b []) : ∃ st bl, bl.length = 64 ∧ Blk w b (dcells st bl 0) 169 := by
  obtain ⟨⟨k, u, bl, _, _, hb, _, hB⟩⟩ | ⟨_, h⟩ := h.ex
  · exact ⟨_, bl, hb, hB⟩
  · exact h
theorem DigIs.at {w : World} {b : Nat} {m : List UInt8} (h : DigIs w b m) (hm : m ≠ []) : DigAt w b m m.length := by
  obtain h | ⟨h, _⟩ := h.ex
  · exact h
  · exact absurd h hm
theorem DigAt.start {w : World} {b : Nat} {bl : List UInt8} (hb : bl.length = 64) (h : Blk w b (dcells first bl 0) 169) : DigAt w b [] 0 :=
  ⟨0, 0, bl, rfl, by omega, hb, rfl, h⟩
theorem spl_take (bl : List UInt8) (u : Nat) (s : List UInt8) (h : bl.length = 64) (hu : u + s.length ≤ 64) : (spl bl u s).take (u + s.length) = bl.take u ++ s := by
  rw [spl, ← List.append_assoc, List.take_append_of_le_length (by simp; omega), List.take_of_length_le (by simp; omega)]
/-- A part is laid into the block that isn't full. -/
theorem DigAt.part {w' : World} {b : Nat} {c s : List UInt8} {N k u : Nat} {bl : List UInt8} (hc : c.length = 64 * k + u) (hb : bl.length = 64) (ht : bl.take u = c.drop (64 * k)) (hs : u + s.length < 64)
    (hB : Blk w' b (dcells (stateAt c k) (spl bl u s) N) 169) : DigAt w' b (c ++ s) N := by
  refine ⟨k, u + s.length, spl bl u s, by rw [List.length_append]; omega, hs, by rw [spl_length _ _ _ (by omega)]; exact hb, ?_, ?_⟩
  · rw [spl_take bl u s hb (by omega), ht, List.drop_append_of_le_length (by omega)]
  · rw [stateAt_append c s k (by omega)]; exact hB
/-- The part that fills the block, which is mixed in. -/
theorem DigAt.full {w' : World} {b : Nat} {c s : List UInt8} {N k u : Nat} {bl : List UInt8} (hc : c.length = 64 * k + u) (hb : bl.length = 64) (ht : bl.take u = c.drop (64 * k)) (hs : u + s.length = 64)
    (hB : Blk w' b (dcells (comp (spl bl u s) (stateAt c k)) (spl bl u s) N) 169) : DigAt w' b (c ++ s) N := by
  have e1 : (spl bl u s) = blockAt (c ++ s) k := by
    have h1 := spl_take bl u s hb (by omega)
    rw [List.take_of_length_le (by rw [spl_length _ _ _ (by omega)]; omega)] at h1
    rw [blockAt, List.drop_append_of_le_length (by omega), List.take_of_length_le (by rw [List.length_append, List.length_drop]; omega), h1, ht]
  refine ⟨k + 1, 0, spl bl u s, by rw [List.length_append]; omega, by omega, by rw [spl_length _ _ _ (by omega)]; exact hb, ?_, ?_⟩
  · rw [List.drop_of_length_le (by rw [List.length_append]; omega)]; rfl
  · rw [stateAt, ← e1, stateAt_append c s k (by omega)]; exact hB
theorem data_len (r : ByteArray) : r.data.toList.length = r.size := by rw [Array.length_toList]; rfl
/-- What is left of a text behind its first n bytes. -/
theorem rest_data (r : ByteArray) (n : Nat) : (r.extract n r.size).data.toList = r.data.toList.drop n := by
  rw [ByteArray.data_extract, Array.toList_extract, List.extract_eq_take_drop]
  rw [List.take_of_length_le (by rw [List.length_drop, data_len]; omega)]
theorem rest_size (r : ByteArray) (n : Nat) (h : n ≤ r.size) : (r.extract n r.size).size = r.size - n := by
  rw [ByteArray.size_extract]; omega
theorem take_len (r : ByteArray) (n : Nat) (h : n ≤ r.size) : (r.data.toList.take n).length = n := by
  rw [List.length_take, data_len]; omega
theorem goes_on {c m : List UInt8} {r : ByteArray} {n : Nat} (h : c ++ r.data.toList = m) : (c ++ r.data.toList.take n) ++ (r.extract n r.size).data.toList = m := by
  rw [rest_data, List.append_assoc, List.take_append_drop]; exact h
theorem min_part {r u n : Nat} (h : Nat.min r (64 - u) = n) (hu : u < 64) (h0 : 0 < r) : r - n < r ∧ n ≤ r ∧ u + n ≤ 64 := by
  rcases Nat.le_total r (64 - u) with h1 | h1
  · have : Nat.min r (64 - u) = r := Nat.min_eq_left h1
    omega
  · have : Nat.min r (64 - u) = 64 - u := Nat.min_eq_right h1
    omega
end Go.Proofs.YthkfefkcjcgfkaaGreatDoor

namespace Go.Proofs.YthkfefkcjcgfkaaGreatDoor
open Go.RowKit

set_option maxHeartbeats 400000 in
set_option maxRecDepth 100000 in
theorem begin_zero (b : Nat) (st : S8) (bl : List UInt8) (w : World) (hbl : bl.length = 64) (hB : Blk w b (dcells st bl 0) 169) :
    Calls Tryz.prog 156 #[.pointer (some ⟨b, 0, none⟩)] w fun e w' => e = .returned (.tuple #[]) ∧ DigAt w' b [] 0 ∧ Save w.heap.size b w w' := by
  have c72 := hB.cell 72
  rw [dcells_size _ _ _ hbl] at c72
  have hlt := hB.lt
  have hB2 := hB.alloc (.cells (first8.map fun x => Value.int .u32 (U x)).toArray 166)
  have hst := run_store_row (P := Tryz.prog) (o := 0) hB2 (first8.map fun x => Value.int .u32 (U x)) (by rw [dcells_length _ _ _ hbl]; decide) (words_one _)
  rw [dcells_first] at hst
  have HB := Box.mk hB2
  clear hB hB2
  go_enter Tryz.func156, Tryz.ntmps156
  go_wp2_with (go_at_call 163; refine (first_any _).mono ?_; rintro e w' ⟨rfl, rfl⟩)
  go_end0
  refine ⟨rfl, DigAt.start hbl (setRow_blk HB.out _), ?_⟩
  exact ((Save.refl _ _ _).alloc (Nat.le_refl _) _).trans (setRow_save _ _ _ _)
set_option maxHeartbeats 400000 in
set_option maxRecDepth 100000 in
theorem begin_some (b : Nat) (st : S8) (bl : List UInt8) (n : Nat) (w : World) (hbl : bl.length = 64) (hn : 0 < n) (hB : Blk w b (dcells st bl n) 169) :
    Calls Tryz.prog 156 #[.pointer (some ⟨b, 0, none⟩)] w fun e w' => e = .returned (.tuple #[]) ∧ w = w' := by
  have c72 := hB.cell 72
  rw [dcells_size _ _ _ hbl] at c72
  have h0 : ((n : Int) == 0) = false := by simp; omega
  clear hB
  go_enter Tryz.func156, Tryz.ntmps156
  go_wp2
  go_end0
  exact ⟨rfl, rfl⟩
theorem begin_any (b : Nat) (m : List UInt8) (w : World) (h : DigIs w b m) :
    Calls Tryz.prog 156 #[.pointer (some ⟨b, 0, none⟩)] w fun e w' => e = .returned (.tuple #[]) ∧ DigAt w' b m m.length ∧ Save w.heap.size b w w' := by
  by_cases hm : m = []
  · subst hm
    obtain ⟨st, bl, hbl, hB⟩ := h.empty
    exact begin_zero b st bl w hbl hB
  · have hA := h.at hm
    obtain ⟨k, u, bl, hc, hu, hbl, ht, hB⟩ := hA.ex
    refine (begin_some b _ bl _ w hbl (List.length_pos_iff.2 hm) hB).mono fun e w' ⟨he, hw⟩ => ?_
    subst hw
    exact ⟨he, hA, Save.refl _ _ _⟩
end Go.Proofs.YthkfefkcjcgfkaaGreatDoor

namespace Go.Proofs.YthkfefkcjcgfkaaGreatDoor
open Go.RowKit
theorem len_block : Tryz.prog.arrayLen 167 = 64 := by kernel_rfl
theorem elem_block : Tryz.prog.elem 167 = 5 := by kernel_rfl
theorem info_u8 : (Tryz.prog.info? 5).map (·.size) = some 1 := by kernel_rfl
theorem size_u8 (w : World) : (sizeOf 5).run Tryz.prog w = .ok 1 w := by
  have := info_u8
  cases hq : Tryz.prog.info? 5 with
  | none => rw [hq] at this; cases this
  | some i =>
    rw [hq] at this
    simp only [Option.map_some, Option.some.injEq] at this
    simp [sizeOf, typeInfo, hq, this]
theorem slice_block (w : World) (b o u : Nat) (hu : u < 64) :
    (Instr.sliceAt 167 (.pointer (some ⟨b, o, none⟩)) (some (.int .i64 (u : Int))) none none).run Tryz.prog w = .ok (.slice (some ⟨b, o + u, none⟩) (64 - u) (64 - u)) w := by
  rw [run_sliceAt_array_l w 167 ⟨b, o, none⟩ (by rw [len_block, elem_block]; exact Tryz.underlying167) .i64 u (by omega) (by rw [len_block]; omega), len_block, elem_block, size_u8]
  have : ¬ 64 = u := by omega
  simp [Result.andThen, slicedAt, this, Addr.add]
end Go.Proofs.YthkfefkcjcgfkaaGreatDoor

namespace Go.Proofs.YthkfefkcjcgfkaaGreatDoor
open Go.RowKit

theorem KIs.apart {w : World} {b : Nat} {st : S8} {bl : List UInt8} {n : Nat} {t : TypeId} (h : KIs w) (hbl : bl.length = 64) (hB : Blk w b (dcells st bl n) t) : b ≠ 8 := by
  intro e
  subst e
  have h1 := h 8 (by omega)
  rw [hB.cell, dcells, List.getElem?_append_right (by rw [S8.cells_length]; omega), S8.cells_length, dcells_block bl n 0 hbl (by omega)] at h1
  simp at h1

theorem KIs.apart' {w : World} {b : Nat} {m : List UInt8} (h : KIs w) (hD : DigIs w b m) : b ≠ 8 := by
  obtain ⟨⟨k, u, bl, _, _, hb, _, hB⟩⟩ | ⟨_, st, bl, hb, hB⟩ := hD.ex
  · exact h.apart hb hB
  · exact h.apart hb hB

set_option maxHeartbeats 800000 in
set_option maxRecDepth 100000 in
theorem add_some (b : Nat) (m : List UInt8) (s : ByteArray) (w : World) (hD : DigIs w b m) (hK : KIs w) (hsz : m.length + s.size ≤ 4611686018427387904) :
    Calls Tryz.prog 148 #[.pointer (some ⟨b, 0, none⟩), .string s] w fun e w' => e = .returned (.tuple #[]) ∧ DigAt w' b (m ++ s.data.toList) (m.length + s.size) ∧ Save w.heap.size b w w' := by
  have hbK := Box.mk (hK.apart' hD)
  obtain ⟨N, hN⟩ : ∃ N, m.length = N := ⟨_, rfl⟩
  have hbeg := begin_any b m w hD
  rw [hN] at hbeg hsz
  rw [hN]
  replace hN := Box.mk hN
  clear hD
  go_enter Tryz.func148, Tryz.ntmps148
  go_wp2_with (go_at_call 156; refine hbeg.mono ?_; rintro e w1 ⟨rfl, hA, hS⟩; obtain ⟨k, u, bl, hD⟩ := hA.open; have c72 := hD.size; have f72 := hD.free 72; have hS' := Box.mk hS; clear hS hA)
  go_loopw [1, 4] (fun s1 s4 wr => ∃ (c : List UInt8) (r : ByteArray) (k u : Nat) (bl : List UInt8), s1 = .string r ∧ s4 = .int .i64 u ∧ Box (c ++ r.data.toList = m ++ s.data.toList) ∧ DigK wr b c (N + s.size) k u bl ∧ Box (Save w.heap.size b w wr) ∧ r.size ≤ 4611686018427387904) (fun s1 _ _ => match s1 with | .string r => r.size | _ => 0)
  case atStart =>
    refine ⟨m, s, k, u, bl, rfl, ?_, ⟨rfl⟩, hD.resize _, ⟨hS'.out.setCell (.inl rfl) _⟩, by omega⟩
    have h1 := hN.out; have h2 := hD.len; have h3 := hD.lt
    exact u_eq (by omega)
  case round =>
    clear hD c72 f72 hS'
    obtain ⟨c, r, k, u, bl, rfl, rfl, hc, hD, hS, hr⟩ := hrel
    have hK' : Box (KIs wr) := ⟨hK.save hS.out hK.lt hbK.out⟩
    by_cases h0 : 0 < r.size
    · obtain ⟨n, hn⟩ : ∃ n, Nat.min r.size (64 - u) = n := ⟨_, rfl⟩
      have hu := hD.lt
      have hn1 : n ≤ r.size := hn ▸ Nat.min_le_left _ _
      have hn2 : u + n ≤ 64 := by
        have h2 := Nat.min_le_right r.size (64 - u)
        rw [show min r.size (64 - u) = n from hn] at h2; omega
      replace hn := Box.mk hn
      have hsl := slice_block wr b 8 u hu
      have hfit : 8 + u + Nat.min r.size (64 - u) ≤ (dcells (stateAt c k) bl (N + s.size)).length := by
        rw [dcells_length _ _ _ hD.full, hn.out]; omega
      have HD := Box.mk hD
      have HF := Box.mk hfit
      have HB := hD.blk
      clear hD hfit
      have hmeas := (min_part hn.out hu h0).1
      by_cases h64 : u + n = 64
      · have ht : ((u : Int) + (n : Int) == 64) = true := by simp; omega
        go_wp2_with (refine wpList_copy_str rfl (.tmp 31) (.tmp 32) 63 9 rfl 5 Tryz.underlying63 info_u8 b (8 + u) (64 - u) (64 - u) r rfl rfl _ 169 HB HF.out ?_; intro w2 hB2 hS2; rw [hn.out] at hB2 ⊢)
        refine region_quiet_tail_lit 6 (by kernel_rfl) (by kernel_rfl) ?_
        simp only [List.take_succ_cons, List.take_zero, List.drop_succ_cons, List.drop_zero]
        repeat (go_big_quiet_step (fail))
        refine wpQuiet_nil ?_
        intro _ hw'
        obtain ⟨nq, hw''⟩ := hw'
        subst hw''
        have hB3 := HD.out.laid (take_len r n hn1) hn2 hB2.out
        have hK2 : KIs w2 := hK'.out.save (hS2.out _) hK'.out.lt hbK.out
        have HMix := mix_any b (spl bl u (r.data.toList.take n)) (stateAt c k) _ (w2.drewN nq) 169 hB3 (fun i hi => dcells_block _ _ i (by rw [spl_length _ _ _ (by rw [HD.out.full, take_len r n hn1]; exact hn2)]; exact HD.out.full) hi) hK2
        go_wp2_with (go_at_call 157; refine HMix.mono ?_; rintro e w3 ⟨rfl, hB4, hS4⟩; replace hB4 := Box.mk hB4; replace hS4 := Box.mk hS4)
        have hd := HD.out
        have hA := DigAt.full (s := r.data.toList.take n) hd.len hd.full hd.tail (by rw [take_len r n hn1]; exact h64) hB4.out
        obtain ⟨bl', hK4⟩ := hA.at_u (k := k + 1) (u := 0) (by rw [List.length_append, take_len r n hn1, hd.len]; omega) (by omega)
        refine ⟨⟨c ++ r.data.toList.take n, r.extract n r.size, k + 1, 0, bl', rfl, rfl, ⟨goes_on hc.out⟩, hK4, ⟨((hS.out.trans (hS2.out _)).drewN nq).trans (hS4.out.mono ?_)⟩, ?_⟩, ?_⟩
        · exact Nat.le_trans hS.out.size (hS2.out 0).size
        · rw [rest_size r n hn1]; omega
        · show (r.extract n r.size).size < r.size
          rw [rest_size r n hn1]; exact hmeas
      · have ht : ((u : Int) + (n : Int) == 64) = false := by simp; omega
        go_wp2_with (refine wpList_copy_str rfl (.tmp 31) (.tmp 32) 63 9 rfl 5 Tryz.underlying63 info_u8 b (8 + u) (64 - u) (64 - u) r rfl rfl _ 169 HB HF.out ?_; intro w2 hB2 hS2; rw [hn.out] at hB2 ⊢)
        have hd := HD.out
        have hB3 := hd.laid (take_len r n hn1) hn2 hB2.out
        have hA := DigAt.part (s := r.data.toList.take n) hd.len hd.full hd.tail (by rw [take_len r n hn1]; omega) hB3
        obtain ⟨bl', hK4⟩ := hA.at_u (k := k) (u := u + n) (by rw [List.length_append, take_len r n hn1, hd.len]; omega) (by omega)
        refine ⟨⟨c ++ r.data.toList.take n, r.extract n r.size, k, u + n, bl', rfl, by go_num, ⟨goes_on hc.out⟩, hK4, ⟨hS.out.trans (hS2.out _)⟩, ?_⟩, ?_⟩
        · rw [rest_size r n hn1]; omega
        · show (r.extract n r.size).size < r.size
          rw [rest_size r n hn1]; exact hmeas
    · go_wp2
      go_end0
      refine ⟨rfl, ?_, hS.out⟩
      have : r.data.toList = [] := by
        have : r.data.toList.length = r.size := by rw [Array.length_toList]; rfl
        exact List.length_eq_zero_iff.1 (by omega)
      have e := hc.out
      rw [this, List.append_nil] at e
      rw [← e]
      exact hD.shut
end Go.Proofs.YthkfefkcjcgfkaaGreatDoor

namespace Go.Proofs.YthkfefkcjcgfkaaGreatDoor
open Go.RowKit

theorem add_any (b : Nat) (m : List UInt8) (s : ByteArray) (w : World) (hD : DigIs w b m) (hK : KIs w) (hsz : m.length + s.size ≤ 4611686018427387904) :
    Calls Tryz.prog 148 #[.pointer (some ⟨b, 0, none⟩), .string s] w fun e w' => e = .returned (.tuple #[]) ∧ DigIs w' b (m ++ s.data.toList) ∧ KIs w' ∧ Box (Save w.heap.size b w w') := by
  refine (add_some b m s w hD hK hsz).mono fun e w' ⟨he, hA, hS⟩ => ⟨he, ⟨.inl ?_⟩, hK.save hS hK.lt (hK.apart' hD), ⟨hS⟩⟩
  rw [List.length_append, data_len]; exact hA
theorem DigIs.size {w : World} {b : Nat} {m : List UInt8} (h : DigIs w b m) : w.cell? ⟨b, 72, none⟩ = some (.int .i64 (m.length : Int)) := by
  obtain hA | ⟨rfl, st, bl, hb, hB⟩ := h.ex
  · obtain ⟨k, u, bl, H⟩ := hA.open; exact H.size
  · rw [hB.cell, dcells_size _ _ _ hb]; rfl

theorem DigIs.lt {w : World} {b : Nat} {m : List UInt8} (h : DigIs w b m) : b < w.heap.size := block_lt_of_cell h.size
theorem DigIs.below {w w' : World} {b : Nat} {m : List UInt8} (h : DigIs w b m) (hb : Below w.heap.size w w') : DigIs w' b m := by
  have hlt := h.lt
  obtain ⟨⟨k, u, bl, h1, h2, h3, h4, hB⟩⟩ | ⟨rfl, st, bl, h1, hB⟩ := h.ex
  · exact ⟨.inl ⟨k, u, bl, h1, h2, h3, h4, hB.below hb hlt⟩⟩
  · exact ⟨.inr ⟨rfl, st, bl, h1, hB.below hb hlt⟩⟩
theorem DigK.words {w : World} {b : Nat} {c : List UInt8} {N k u : Nat} {bl : List UInt8} (h : DigK w b c N k u bl) (i : Nat) (hi : i < 8) :
    w.cell? ⟨b, i, none⟩ = (stateAt c k).cells[i]? := by
  rw [h.blk.cell, dcells, List.getElem?_append_left (by rw [S8.cells_length]; omega)]
/-- The bytes that are laid behind a text. -/
def padLit : ByteArray := { data := #[128, 0, 0, 0, 0, 0, 0, 0, 0, 0, 0, 0, 0, 0, 0, 0, 0, 0, 0, 0, 0, 0, 0, 0, 0, 0, 0, 0, 0, 0, 0, 0, 0, 0, 0, 0, 0, 0, 0, 0, 0, 0, 0, 0, 0, 0, 0, 0, 0, 0, 0, 0, 0, 0, 0, 0, 0, 0, 0, 0, 0, 0, 0, 0, 0] }
theorem pad_data : padLit.data.toList = 128 :: List.replicate 64 0 := rfl
theorem pad_take (z : Nat) (h : z ≤ 63) : (padLit.extract 0 (1 + z)).data.toList = 128 :: List.replicate z 0 := by
  rw [ByteArray.data_extract, Array.toList_extract, List.extract_eq_take_drop, List.drop_zero, pad_data, show 1 + z - 0 = z + 1 by omega, List.take_succ_cons, List.take_replicate, Nat.min_eq_left (by omega)]
theorem pad_size (z : Nat) (h : z ≤ 63) : (padLit.extract 0 (1 + z)).size = z + 1 := by
  rw [← data_len, pad_take z h]; simp
def be4 (x : BitVec 32) : List UInt8 := (bytes4 x).map fun n => UInt8.ofNat n.toNat
theorem four_data (x : BitVec 32) : (strOfNums (bytes4 x)).data.toList = be4 x := rfl
theorem four_size (x : BitVec 32) : (strOfNums (bytes4 x)).size = 4 := rfl

/-- 32 zeros, written out as a walk writes them. -/
def zeros32 : Array Value := #[Value.int IntKind.u8 0, Value.int IntKind.u8 0, Value.int IntKind.u8 0, Value.int IntKind.u8 0, Value.int IntKind.u8 0, Value.int IntKind.u8 0, Value.int IntKind.u8 0, Value.int IntKind.u8 0, Value.int IntKind.u8 0, Value.int IntKind.u8 0, Value.int IntKind.u8 0, Value.int IntKind.u8 0, Value.int IntKind.u8 0, Value.int IntKind.u8 0, Value.int IntKind.u8 0, Value.int IntKind.u8 0, Value.int IntKind.u8 0, Value.int IntKind.u8 0, Value.int IntKind.u8 0, Value.int IntKind.u8 0, Value.int IntKind.u8 0, Value.int IntKind.u8 0, Value.int IntKind.u8 0, Value.int IntKind.u8 0, Value.int IntKind.u8 0, Value.int IntKind.u8 0, Value.int IntKind.u8 0, Value.int IntKind.u8 0, Value.int IntKind.u8 0, Value.int IntKind.u8 0, Value.int IntKind.u8 0, Value.int IntKind.u8 0]
/-- What has been laid of a hash after i words. -/
def outAt (st : S8) (i : Nat) : List UInt8 := (st.list.take i).flatMap be4 ++ List.replicate (32 - 4 * i) 0
theorem outAt_zero (st : S8) : ((outAt st 0).map yc).toArray = zeros32 := rfl
theorem outAt_step (st : S8) (i : Nat) (hi : i < 8) : spl ((outAt st i).map yc) (4 * i) ((be4 (st.list.getD i 0)).map yc) = (outAt st (i + 1)).map yc := by
  obtain rfl | rfl | rfl | rfl | rfl | rfl | rfl | rfl : i = 0 ∨ i = 1 ∨ i = 2 ∨ i = 3 ∨ i = 4 ∨ i = 5 ∨ i = 6 ∨ i = 7 := by omega
  all_goals rfl
theorem outAt_length (st : S8) (i : Nat) (hi : i ≤ 8) : (outAt st i).length = 32 := by
  obtain rfl | rfl | rfl | rfl | rfl | rfl | rfl | rfl | rfl : i = 0 ∨ i = 1 ∨ i = 2 ∨ i = 3 ∨ i = 4 ∨ i = 5 ∨ i = 6 ∨ i = 7 ∨ i = 8 := by omega
  all_goals rfl
theorem index_any (st : S8) (i : Nat) (hi : i < 8) (w : World) : (Instr.index 166 (.agg #[Value.int IntKind.u32 (U st.a), Value.int IntKind.u32 (U st.b), Value.int IntKind.u32 (U st.c),
    Value.int IntKind.u32 (U st.d), Value.int IntKind.u32 (U st.e), Value.int IntKind.u32 (U st.f), Value.int IntKind.u32 (U st.g), Value.int IntKind.u32 (U st.h)]) (.int .i64 (i : Int))).run Tryz.prog w = .ok (.int .u32 (U (st.list.getD i 0))) w := by
  obtain rfl | rfl | rfl | rfl | rfl | rfl | rfl | rfl : i = 0 ∨ i = 1 ∨ i = 2 ∨ i = 3 ∨ i = 4 ∨ i = 5 ∨ i = 6 ∨ i = 7 := by omega
  all_goals kernel_rfl
theorem len_out : Tryz.prog.arrayLen 186 = 32 := by kernel_rfl
theorem elem_out : Tryz.prog.elem 186 = 5 := by kernel_rfl
theorem slice_out (w : World) (b u : Nat) (hu : u < 32) :
    (Instr.sliceAt 186 (.pointer (some ⟨b, 0, none⟩)) (some (.int .i64 (u : Int))) none none).run Tryz.prog w = .ok (.slice (some ⟨b, u, none⟩) (32 - u) (32 - u)) w := by
  rw [run_sliceAt_array_l w 186 ⟨b, 0, none⟩ (by rw [len_out, elem_out]; exact Tryz.underlying186) .i64 u (by omega) (by rw [len_out]; omega), len_out, elem_out, size_u8]
  have : ¬ 32 = u := by omega
  simp [Result.andThen, slicedAt, this, Addr.add]
  intro h; exact h.symm

theorem _root_.Go.Proofs.YthkfefkcjcgfkaaGreatDoor.Save.thenS {a w c : World} {b : Nat} (h : Save a.heap.size b a w) (k : Save w.heap.size b w c) : Save a.heap.size b a c := h.trans (k.mono h.size)
theorem _root_.Go.Proofs.YthkfefkcjcgfkaaGreatDoor.Save.thenB {a w c : World} {b : Nat} (h : Save a.heap.size b a w) (k : Below w.heap.size w c) : Save a.heap.size b a c := h.trans (Save.of_below (k.mono h.size))
/-- A text with what is laid behind it; its hash. -/
def padded (m : List UInt8) : List UInt8 := m ++ 128 :: List.replicate ((119 - m.length % 64) % 64) 0 ++ be4 (BitVec.ofNat 32 (m.length * 8 / 4294967296)) ++ be4 (BitVec.ofNat 32 (m.length * 8))
def hashL (m : List UInt8) : List UInt8 := (stateAt (padded m) ((padded m).length / 64)).list.flatMap be4
def hashOf (m : List UInt8) : ByteArray := ⟨(hashL m).toArray⟩
theorem Y_back (l : List UInt8) : strOfNums (l.map Y) = ⟨l.toArray⟩ := by
  unfold strOfNums
  have : ((l.map Y).map fun n => UInt8.ofNat n.toNat) = l := by
    rw [List.map_map]
    conv => rhs; rw [← List.map_id l]
    refine List.map_congr_left fun x _ => ?_
    show UInt8.ofNat (Y x).toNat = x
    unfold Y
    rw [Int.toNat_natCast, UInt8.ofNat_toNat]
  rw [this]
theorem outAt_end (st : S8) : outAt st 8 = st.list.flatMap be4 := by
  rw [outAt, List.take_of_length_le (by simp [S8.list]), show 32 - 4 * 8 = 0 by rfl, List.replicate_zero, List.append_nil]
theorem slice_all (w : World) (b : Nat) :
    (Instr.sliceAt 186 (.pointer (some ⟨b, 0, none⟩)) none none none).run Tryz.prog w = .ok (.slice (some ⟨b, 0, none⟩) 32 32) w := by
  rw [run_sliceAt_array_all w 186 ⟨b, 0, none⟩ (by rw [len_out, elem_out]; exact Tryz.underlying186), len_out, elem_out, size_u8]
  simp [Result.andThen, slicedAt, Addr.add]
theorem hi_of (N : Nat) (x : BitVec 32) (h : (N : Int) * 8 / 4294967296 = U x) : x = BitVec.ofNat 32 (N * 8 / 4294967296) := by
  apply BitVec.eq_of_toNat_eq
  rw [BitVec.toNat_ofNat]
  have := x.isLt
  unfold U at h; omega
theorem lo_of (N : Nat) (x : BitVec 32) (h : (N : Int) * 8 % 4294967296 = U x) : x = BitVec.ofNat 32 (N * 8) := by
  apply BitVec.eq_of_toNat_eq
  rw [BitVec.toNat_ofNat]
  unfold U at h; omega
/-- The end: the text of the row. -/
theorem out_text {w : World} {b : Nat} {l : List UInt8} (h : Blk w b (l.map yc) 186) (hl : l.length = 32) :
    (convert 63 9 (.slice (some ⟨b, 0, none⟩) 32 32)).run Tryz.prog w = .ok (.string ⟨l.toArray⟩) w := by
  have := run_convert_bytes_arg (P := Tryz.prog) w 63 5 Tryz.underlying63 Tryz.underlying5 b 0 32 32 (l.map Y) (by simp [hl])
    (fun i hi => by rw [Nat.zero_add, h.cell, List.getElem?_map]; simp [hl, hi, yc, List.getD]) 9 Tryz.underlying9
  rw [Y_back] at this; exact this

set_option maxHeartbeats 800000 in
set_option maxRecDepth 100000 in
theorem finish_any (b : Nat) (m : List UInt8) (w : World) (hD : DigIs w b m) (hK : KIs w) (hsz : m.length ≤ 1152921504606846976) :
    Calls Tryz.prog 158 #[.pointer (some ⟨b, 0, none⟩)] w fun e w' => e = .returned (.string (hashOf m)) ∧ Save w.heap.size b w w' := by
  have c72 := hD.size
  obtain ⟨N, hN⟩ : ∃ N, m.length = N := ⟨_, rfl⟩
  obtain ⟨z, hz⟩ : ∃ z, (119 - N % 64) % 64 = z := ⟨_, rfl⟩
  have hz1 : z ≤ 63 := by omega
  have e1 : ((119 : Int) - (N : Int) % 64) % 64 = (z : Int) := by omega
  rw [hN] at c72 hsz
  replace hN := Box.mk hN
  replace hz := Box.mk hz
  go_enter Tryz.func158, Tryz.ntmps158
  go_wp2_with fail
  have HP := pad_take z hz1
  have HZ := pad_size z hz1
  have hA1 := add_any b m (padLit.extract 0 (1 + z)) w hD hK (by rw [HZ, hN.out]; omega)
  rw [HP] at hA1
  replace HP := Box.mk HP
  replace HZ := Box.mk HZ
  clear hD hK c72
  refine hA1.mono ?_
  clear hA1
  rintro e w1 ⟨rfl, hD1, hK1, hS1⟩
  go_wp2_with fail
  obtain ⟨hi, ehi⟩ : ∃ x : BitVec 32, (N : Int) * 8 / 4294967296 = U x := ⟨BitVec.ofNat 32 (N * 8 / 4294967296), by rw [U, BitVec.toNat_ofNat]; omega⟩
  rw [ehi]
  refine (four_any hi _).mono ?_
  rintro e w2 ⟨rfl, hB2⟩
  have hD2 := hD1.below hB2
  have hK2 := hK1.below hB2 hK1.lt
  replace hB2 := Box.mk hB2
  replace ehi := Box.mk ehi
  clear hD1 hK1
  go_wp2_with fail
  have hA3 := add_any b _ (strOfNums (bytes4 hi)) w2 hD2 hK2 (by simp only [List.length_append, List.length_cons, List.length_replicate, four_size, hN.out]; omega)
  rw [four_data] at hA3
  clear hD2 hK2
  refine hA3.mono ?_
  clear hA3
  rintro e w3 ⟨rfl, hD3, hK3, hS3⟩
  go_wp2_with fail
  obtain ⟨lo, elo⟩ : ∃ x : BitVec 32, (N : Int) * 8 % 4294967296 = U x := ⟨BitVec.ofNat 32 (N * 8), by rw [U, BitVec.toNat_ofNat]; omega⟩
  rw [elo]
  refine (four_any lo _).mono ?_
  rintro e w4 ⟨rfl, hB4⟩
  have hD4 := hD3.below hB4
  have hK4 := hK3.below hB4 hK3.lt
  replace hB4 := Box.mk hB4
  replace elo := Box.mk elo
  clear hD3 hK3
  go_wp2_with fail
  have hA5 := add_any b _ (strOfNums (bytes4 lo)) w4 hD4 hK4 (by simp only [List.length_append, List.length_cons, List.length_replicate, four_size, hN.out, be4_length]; omega)
  rw [four_data] at hA5
  clear hD4 hK4
  refine hA5.mono ?_
  clear hA5
  rintro e w5 ⟨rfl, hD5, hK5, hS5⟩
  have hD6 := (hD5.at (by simp)).open
  obtain ⟨k, u, bl, hD7⟩ := hD6
  obtain ⟨st, hst⟩ : ∃ st, stateAt (m ++ 128 :: List.replicate z 0 ++ be4 hi ++ be4 lo) k = st := ⟨_, rfl⟩
  have c0 := hD7.words 0 (by omega)
  have c1 := hD7.words 1 (by omega)
  have c2 := hD7.words 2 (by omega)
  have c3 := hD7.words 3 (by omega)
  have c4 := hD7.words 4 (by omega)
  have c5 := hD7.words 5 (by omega)
  have c6 := hD7.words 6 (by omega)
  have c7 := hD7.words 7 (by omega)
  have hlt := hD5.lt
  replace hD7 := Box.mk (And.intro hD7.len hD7.lt)
  rw [hst] at c0 c1 c2 c3 c4 c5 c6 c7
  replace hst := Box.mk hst
  simp only [S8.cells, S8.list, List.map_cons, List.getElem?_cons_zero, List.getElem?_cons_succ] at c0 c1 c2 c3 c4 c5 c6 c7
  clear hD5
  go_wp2_with fail
  go_loopw [7, 8, 40] (fun _ _ q wr => ∃ i : Nat, i ≤ 8 ∧ q = .int .i64 i ∧ Blk wr w5.heap.size ((outAt st i).map yc) 186 ∧ Below w5.heap.size w5 wr) (fun _ _ q _ => 8 - (intOf q).toNat)
  case atStart => exact ⟨0, by omega, rfl, by (have := Blk.new w5 ((outAt st 0).map yc) 186; rw [outAt_zero] at this; exact this), (Below.refl _ _).alloc (Nat.le_refl _) _⟩
  case round =>
    obtain ⟨i, hi9, rfl, hO, hBW⟩ := hrel
    clear c0 c1 c2 c3 c4 c5 c6 c7
    by_cases hi8 : i < 8
    · have hix := index_any st i hi8 wr
      obtain ⟨x, hx⟩ : ∃ x, st.list.getD i 0 = x := ⟨_, rfl⟩
      rw [hx] at hix
      replace hx := Box.mk hx
      go_wp2_with fail
      refine region_quiet_tail (C := fun w' => Below wr.heap.size wr w') 5 (by kernel_rfl) (by kernel_rfl) (Below.refl _ _).drew ?_
      simp only [List.take_succ_cons, List.take_zero, List.drop_succ_cons, List.drop_zero]
      have hsl := fun w => slice_out w w5.heap.size (4 * i) (by omega)
      simp only [show ((4 * i : Nat) : Int) = 4 * (i : Int) by omega] at hsl
      repeat (go_big_quiet_step (first | exact fun _ => rfl | (intro hw; refine (four_any _ _).mono ?_; rintro e w'' ⟨rfl, h⟩; exact ⟨rfl, hw.trans (h.mono hw.size)⟩)))
      refine wpQuiet_nil ?_
      intro w6 hB6
      have hO6 := hO.below hB6 hO.lt
      have hfit : 4 * i + Nat.min (strOfNums (bytes4 x)).size (32 - 4 * i) ≤ ((outAt st i).map yc).length := by
        rw [List.length_map, outAt_length st i hi9, four_size, show Nat.min 4 (32 - 4 * i) = 4 from Nat.min_eq_left (by omega)]; omega
      have hmn := Box.mk (show Nat.min (strOfNums (bytes4 x)).size (32 - 4 * i) = 4 by rw [four_size]; exact Nat.min_eq_left (by omega))
      replace hfit := Box.mk hfit
      clear hsl hix hO
      go_wp2_with (refine wpList_copy_str rfl (.tmp 46) (.tmp 48) 63 9 rfl 5 Tryz.underlying63 info_u8 w5.heap.size (4 * i) (32 - 4 * i) (32 - 4 * i) (strOfNums (bytes4 x)) rfl rfl _ 186 hO6 hfit.out ?_; intro w7 hB7 hS7; rw [hmn.out] at hB7 ⊢)
      have hm : 8 - (intOf (Value.int IntKind.i64 (↑i + 1))).toNat < 8 - (intOf (Value.int IntKind.i64 ↑i)).toNat := by simp [intOf]; omega
      refine ⟨⟨i + 1, by omega, by go_num, ?_, ?_⟩, hm⟩
      · have h7 := hB7.out
        rw [← outAt_step st i hi8, hx.out]
        exact h7
      · have h1 : w5.heap.size ≤ wr.heap.size := hBW.size
        exact hBW.trans ((hB6.mono h1).trans ((hS7.out w5.heap.size).below (Nat.le_refl _)))
    · obtain rfl : i = 8 := by omega
      have hsa := slice_all wr w5.heap.size
      have hcv := out_text hO (outAt_length st 8 (Nat.le_refl _))
      rw [outAt_end] at hcv
      clear hO
      go_wp2_with fail
      go_ret
      refine ⟨?_, ?_⟩
      · have h1 := hD7.out.1
        have h2 := hD7.out.2
        have h3 : (padded m).length = 64 * k + u := by
          rw [← h1, padded]; simp only [List.length_append, List.length_cons, List.length_replicate, be4_length, hN.out, hz.out]
        have h4 : (padded m).length / 64 = k := by omega
        have h5 : padded m = m ++ 128 :: List.replicate z 0 ++ be4 hi ++ be4 lo := by
          rw [padded, hN.out, hz.out, hi_of N hi ehi.out, lo_of N lo elo.out]
        have h6 : hashL m = st.list.flatMap be4 := by
          rw [hashL, h4, h5, hst.out]
        rw [hashOf, h6]; rfl
      · exact ((((hS1.out.thenB hB2.out).thenS hS3.out).thenB hB4.out).thenS hS5.out).thenB hBW
end Go.Proofs.YthkfefkcjcgfkaaGreatDoor

namespace Go.Proofs.YthkfefkcjcgfkaaGreatDoor
open Go.RowKit

/-- The cells of a new digest, written out as a walk writes them. -/
def zeros73 : Array Value := #[Value.int IntKind.u32 0, Value.int IntKind.u32 0, Value.int IntKind.u32 0, Value.int IntKind.u32 0, Value.int IntKind.u32 0, Value.int IntKind.u32 0, Value.int IntKind.u32 0, Value.int IntKind.u32 0, Value.int IntKind.u8 0, Value.int IntKind.u8 0, Value.int IntKind.u8 0, Value.int IntKind.u8 0, Value.int IntKind.u8 0, Value.int IntKind.u8 0, Value.int IntKind.u8 0, Value.int IntKind.u8 0, Value.int IntKind.u8 0, Value.int IntKind.u8 0, Value.int IntKind.u8 0, Value.int IntKind.u8 0, Value.int IntKind.u8 0, Value.int IntKind.u8 0, Value.int IntKind.u8 0, Value.int IntKind.u8 0, Value.int IntKind.u8 0, Value.int IntKind.u8 0, Value.int IntKind.u8 0, Value.int IntKind.u8 0, Value.int IntKind.u8 0, Value.int IntKind.u8 0, Value.int IntKind.u8 0, Value.int IntKind.u8 0, Value.int IntKind.u8 0, Value.int IntKind.u8 0, Value.int IntKind.u8 0, Value.int IntKind.u8 0, Value.int IntKind.u8 0, Value.int IntKind.u8 0, Value.int IntKind.u8 0, Value.int IntKind.u8 0, Value.int IntKind.u8 0, Value.int IntKind.u8 0, Value.int IntKind.u8 0, Value.int IntKind.u8 0, Value.int IntKind.u8 0, Value.int IntKind.u8 0, Value.int IntKind.u8 0, Value.int IntKind.u8 0, Value.int IntKind.u8 0, Value.int IntKind.u8 0, Value.int IntKind.u8 0, Value.int IntKind.u8 0, Value.int IntKind.u8 0, Value.int IntKind.u8 0, Value.int IntKind.u8 0, Value.int IntKind.u8 0, Value.int IntKind.u8 0, Value.int IntKind.u8 0, Value.int IntKind.u8 0, Value.int IntKind.u8 0, Value.int IntKind.u8 0, Value.int IntKind.u8 0, Value.int IntKind.u8 0, Value.int IntKind.u8 0, Value.int IntKind.u8 0, Value.int IntKind.u8 0, Value.int IntKind.u8 0, Value.int IntKind.u8 0, Value.int IntKind.u8 0, Value.int IntKind.u8 0, Value.int IntKind.u8 0, Value.int IntKind.u8 0, Value.int IntKind.i64 0]
theorem zeros73_eq : zeros73 = (dcells ⟨0, 0, 0, 0, 0, 0, 0, 0⟩ (List.replicate 64 0) 0).toArray := rfl
theorem DigIs.new (w : World) : DigIs (w.alloc (.cells zeros73 169)) w.heap.size [] := by
  rw [zeros73_eq]
  exact ⟨.inr ⟨rfl, _, _, rfl, Blk.new w _ _⟩⟩
theorem dcells_one (st : S8) (bl : List UInt8) (n : Nat) : ∀ v ∈ dcells st bl n, v.oneCell' = true := by
  intro v hv
  simp only [dcells, List.mem_append, List.mem_map, List.mem_singleton, S8.cells] at hv
  obtain ⟨x, _, rfl⟩ | ⟨x, _, rfl⟩ | rfl := hv <;> rfl
theorem DigIs.cells {w : World} {b : Nat} {m : List UInt8} (h : DigIs w b m) : ∃ cs : List Value, Blk w b cs 169 ∧ cs.length = 73 ∧ (∀ v ∈ cs, v.oneCell' = true) ∧ Box (∀ w' b', Blk w' b' cs 169 → DigIs w' b' m) := by
  obtain ⟨⟨k, u, bl, h1, h2, h3, h4, hB⟩⟩ | ⟨rfl, st, bl, h1, hB⟩ := h.ex
  · exact ⟨_, hB, dcells_length _ _ _ h3, dcells_one _ _ _, ⟨fun w' b' h' => ⟨.inl ⟨k, u, bl, h1, h2, h3, h4, h'⟩⟩⟩⟩
  · exact ⟨_, hB, dcells_length _ _ _ h1, dcells_one _ _ _, ⟨fun w' b' h' => ⟨.inr ⟨rfl, st, bl, h1, h'⟩⟩⟩⟩
theorem zero_dig (w : World) : (zeroValue 169).run Tryz.prog w = .ok (.agg zeros73) w := by kernel_rfl
theorem info_dig : (Tryz.prog.info? 169).map (·.size) = some 73 := by kernel_rfl

set_option maxHeartbeats 400000 in
set_option maxRecDepth 100000 in
theorem sum_some (b : Nat) (m : List UInt8) (w : World) (hD : DigIs w b m) (hK : KIs w) (hsz : m.length ≤ 1152921504606846976) :
    Calls Tryz.prog 149 #[.pointer (some ⟨b, 0, none⟩)] w fun e w' => e = .returned (.string (hashOf m)) ∧ Below w.heap.size w w' := by
  obtain ⟨cs, hB, hl, h1, hAll⟩ := hD.cells
  have hB2 := hB.alloc (.cells zeros73 169)
  have hO2 : Blk (w.alloc (.cells zeros73 169)) w.heap.size (dcells ⟨0, 0, 0, 0, 0, 0, 0, 0⟩ (List.replicate 64 0) 0) 169 := Blk.new w _ _
  have hW := (Below.refl w.heap.size w).alloc (Nat.le_refl _) (.cells zeros73 169)
  have hW2 : Below w.heap.size w ((w.alloc (.cells zeros73 169)).setRow w.heap.size cs.toArray) := hW.trans ((setRow_save _ _ _ _).below (Nat.le_refl _))
  have hF := finish_any w.heap.size m _ (hAll.out _ _ (setRow_blk hO2 cs)) (hK.below hW2 hK.lt) hsz
  have hFB := hF.mono (R' := fun e w' => e = .returned (.string (hashOf m)) ∧ Below w.heap.size w w') fun e w' ⟨he, hS⟩ => ⟨he, hW2.trans ((hS.mono (by rw [size_setRow]; simp)).below (Nat.le_refl _))⟩
  have hi : (Tryz.prog.info? 169).map (·.size) = some cs.toArray.size := by rw [info_dig]; simp [hl]
  have hsz2 : zeros73.size = cs.toArray.size := by rw [show cs.toArray.size = 73 by rw [List.size_toArray]; exact hl]; rfl
  have hone : cs.toArray.all (·.oneCell') = true := by rw [List.all_toArray, List.all_eq_true]; exact h1
  replace hB2 := Box.mk hB2
  replace hO2 := Box.mk (show (w.alloc (.cells zeros73 169)).heap[w.heap.size]? = some (.cells zeros73 169 (0, 0)) from hO2)
  replace hi := Box.mk hi
  replace hsz2 := Box.mk hsz2
  replace hone := Box.mk hone
  clear hB hl h1 hAll hW hW2 hF hK hD hsz
  have hz := zero_dig
  go_enter Tryz.func149, Tryz.ntmps149
  go_wp2_with (first | (refine wpList_load_row rfl 169 (.tmp 7) rfl b rfl 169 cs.toArray (0, 0) _ hB2.out Tryz.underlying169 rfl hi.out ?_) | (refine wpList_store_row rfl 169 (.tmp 3) (.tmp 8) rfl w.heap.size cs.toArray rfl rfl 169 zeros73 hO2.out hi.out hsz2.out hone.out ?_) | (go_at_call 158; refine hFB.mono ?_; rintro e w' ⟨rfl, hb⟩))
  go_returns
  exact ⟨rfl, hb⟩
end Go.Proofs.YthkfefkcjcgfkaaGreatDoor

namespace Go.Proofs.YthkfefkcjcgfkaaGreatDoor
open Go.RowKit

/-- The bytes of all parts. -/
def flat (ps : List ByteArray) : List UInt8 := ps.flatMap fun s => s.data.toList
/-- A value that is a slice of these texts. -/
structure PartsAt (w : World) (v : Value) (ps : List ByteArray) : Prop where
  ex : ∃ (a : Option Addr) (cap : Nat), v = .slice a ps.length cap ∧ (0 < ps.length → ∃ blk off, a = some ⟨blk, off, none⟩ ∧ blk < w.heap.size ∧ ∀ i, i < ps.length → w.cell? ⟨blk, off + i, none⟩ = some (.string (ps.getD i ByteArray.empty)))
theorem flat_step (ps : List ByteArray) (i : Nat) (h : i < ps.length) : flat (ps.take i) ++ (ps.getD i ByteArray.empty).data.toList = flat (ps.take (i + 1)) := by
  rw [List.take_succ_eq_append_getElem h, flat, flat, List.flatMap_append]
  simp [List.getD, h]
theorem flat_part (ps : List ByteArray) (i : Nat) (h : i < ps.length) : (flat (ps.take i)).length + (ps.getD i ByteArray.empty).size ≤ (flat ps).length := by
  have h1 : (flat (ps.take (i + 1))).length ≤ (flat ps).length := by
    conv => rhs; rw [← List.take_append_drop (i + 1) ps, flat, List.flatMap_append, List.length_append]
    exact Nat.le_add_right _ _
  rw [← flat_step ps i h, List.length_append, data_len] at h1
  exact h1

set_option maxHeartbeats 800000 in
set_option maxRecDepth 100000 in
theorem sumparts_none (a : Option Addr) (cap : Nat) (w : World) (hK : KIs w) :
    Calls Tryz.prog 132 #[.slice a 0 cap] w fun e w' => e = .returned (.string (hashOf [])) ∧ Below w.heap.size w w' := by
  have hW := (Below.refl w.heap.size w).alloc (Nat.le_refl _) (.cells zeros73 169)
  have hF := sum_some w.heap.size [] _ (DigIs.new w) (hK.below hW hK.lt) (by simp)
  have hFB := hF.mono (R' := fun e w' => e = .returned (.string (hashOf [])) ∧ Below w.heap.size w w') fun e w' ⟨he, hS⟩ => ⟨he, hW.trans (hS.mono (by simp))⟩
  clear hW hF hK
  have hz := zero_dig
  go_enter Tryz.func132, Tryz.ntmps132
  go_wp2_with fail
  go_loopw [5, 8] (fun _ q wr => q = .int .i64 0 ∧ Box (w.alloc (.cells zeros73 169) = wr)) (fun _ _ _ => 0)
  case atStart => exact ⟨rfl, ⟨rfl⟩⟩
  case round =>
    obtain ⟨rfl, hw⟩ := hrel
    rw [hw.out] at hFB
    go_wp2_with (go_at_call 149; refine hFB.mono ?_; rintro e w' ⟨rfl, hb⟩)
    go_returns
    exact ⟨rfl, hb⟩
set_option maxHeartbeats 800000 in
set_option maxRecDepth 100000 in
theorem sumparts_some (blk off cap : Nat) (ps : List ByteArray) (w : World) (hlt : blk < w.heap.size) (hc : ∀ i, i < ps.length → w.cell? ⟨blk, off + i, none⟩ = some (.string (ps.getD i ByteArray.empty)))
    (hK : KIs w) (hsz : (flat ps).length ≤ 1152921504606846976) (hps : ps.length ≤ 4611686018427387904) :
    Calls Tryz.prog 132 #[.slice (some ⟨blk, off, none⟩) ps.length cap] w fun e w' => e = .returned (.string (hashOf (flat ps))) ∧ Below w.heap.size w w' := by
  have hW := (Below.refl w.heap.size w).alloc (Nat.le_refl _) (.cells zeros73 169)
  have hD := DigIs.new w
  have hK1 := hK.below hW hK.lt
  replace hW := Box.mk hW
  replace hc := Box.mk hc
  have hz := zero_dig
  go_enter Tryz.func132, Tryz.ntmps132
  go_wp2_with fail
  go_loopw [5, 8] (fun _ q wr => ∃ i : Nat, i ≤ ps.length ∧ q = .int .i64 i ∧ DigIs wr w.heap.size (flat (ps.take i)) ∧ KIs wr ∧ Box (Below w.heap.size w wr)) (fun _ q _ => ps.length - (intOf q).toNat)
  case atStart => exact ⟨0, by omega, rfl, hD, hK1, hW⟩
  case round =>
    clear hD hK1 hW
    obtain ⟨i, hi, rfl, hD, hKr, hB⟩ := hrel
    by_cases hlt2 : i < ps.length
    · have hcell : wr.cell? ⟨blk, off + i, none⟩ = some (.string (ps.getD i ByteArray.empty)) := by
        rw [hB.out.cell (p := ⟨blk, off + i, none⟩) hlt]; exact hc.out i hlt2
      obtain ⟨s, hs⟩ : ∃ s, ps.getD i ByteArray.empty = s := ⟨_, rfl⟩
      rw [hs] at hcell
      have hA := add_any w.heap.size (flat (ps.take i)) s wr hD hKr (by rw [← hs]; have := flat_part ps i hlt2; omega)
      have hstep := flat_step ps i hlt2
      rw [hs] at hstep
      rw [hstep] at hA
      clear hD hKr hs hstep
      replace hc := Box.mk hc
      go_wp2_with (go_at_call 148; refine hA.mono ?_; rintro e w2 ⟨rfl, hD2, hK2, hS2⟩)
      have hm : ps.length - (intOf (Value.int IntKind.i64 (↑i + 1))).toNat < ps.length - (intOf (Value.int IntKind.i64 ↑i)).toNat := by simp [intOf]; omega
      refine ⟨⟨i + 1, by omega, by go_num, hD2, hK2, ⟨?_⟩⟩, hm⟩
      exact hB.out.trans ((hS2.out.mono hB.out.size).below (Nat.le_refl _))
    · obtain rfl : i = ps.length := by omega
      rw [List.take_length] at hD
      have hF := sum_some w.heap.size (flat ps) wr hD hKr hsz
      clear hD hKr
      go_wp2_with (go_at_call 149; refine hF.mono ?_; rintro e w' ⟨rfl, hb⟩)
      go_returns
      exact ⟨rfl, hB.out.trans (hb.mono hB.out.size)⟩
theorem sum_parts (v : Value) (ps : List ByteArray) (w : World) (hv : PartsAt w v ps) (hK : KIs w) (hsz : (flat ps).length ≤ 1152921504606846976) (hps : ps.length ≤ 4611686018427387904) :
    Calls Tryz.prog 132 #[v] w fun e w' => e = .returned (.string (hashOf (flat ps))) ∧ Below w.heap.size w w' := by
  obtain ⟨a, cap, rfl, h⟩ := hv.ex
  by_cases h0 : 0 < ps.length
  · obtain ⟨blk, off, rfl, hlt, hc⟩ := h h0
    exact sumparts_some blk off cap ps w hlt hc hK hsz hps
  · obtain rfl : ps = [] := List.length_eq_zero_iff.1 (by omega)
    exact sumparts_none a cap w hK
end Go.Proofs.YthkfefkcjcgfkaaGreatDoor
