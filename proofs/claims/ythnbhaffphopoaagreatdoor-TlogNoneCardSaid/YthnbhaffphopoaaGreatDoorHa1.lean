/- Plain facts on words of 32 bits, as the walks spell them, and the hash of a text by its definition, as a function on lists. No program is named. | Walks of the scalar functions of package sha: a word turned, and the sums of turned words. No conditions. | A region that draws its order, whose operations but the last few read or call quietly, the last few standing in one forced order behind all the others: one walk in the order of the text serves every order. The class of worlds is a parameter. No program is named. | Walk of sha.spread: the words of a block. | More plain facts on the hash: what a row of rounds has come to. No program is named. | Walk of sha.mix: a block mixed into the state of a digest. | The last step of a law's row: a call that returned true and changed nothing that was there. No program is named. -/
import Derived.WalkKit
import Derived.Laws.BitsAllLaws
import Derived.Deep.QuietTactic
import Derived.KernelRfl
import Derived.WalkSpells
import Derived.WalkLawsBesides
import Derived.BigQuiet
import Derived.Laws.BytesArg
import Derived.IntWalk
import Derived.StillTailTactics
import Derived.Lib.Hide
import Derived.ProofKit
import Derived.OpenShut
import Derived.Carry
import Derived.Test.YthnbhaffphopoaaGreatDoorRows
namespace Go.Proofs.YthnbhaffphopoaaGreatDoor
open Go.RowKit

/-- A word's number. -/
def U (x : BitVec 32) : Int := (x.toNat : Int)

theorem U_range (x : BitVec 32) : 0 ≤ U x ∧ U x ≤ 4294967295 := by
  unfold U; have := x.isLt; omega
theorem U_ofInt (x : BitVec 32) : BitVec.ofInt 32 (U x) = x := by
  unfold U
  apply BitVec.eq_of_toNat_eq
  rw [ofInt_u32 x.toNat x.isLt]
theorem U_wrap (x : BitVec 32) : IntKind.u32.wrap (U x) = U x := by
  rw [IntKind.wrap_u32]; have := U_range x; omega
theorem U_add (a b : BitVec 32) : IntKind.u32.wrap (U a + U b) = U (a + b) := by
  rw [IntKind.wrap_u32, U, U, U, BitVec.toNat_add]; omega
theorem U_xor (a b : BitVec 32) : bits .xor .u32 (U a) (U b) = U (a ^^^ b) := by
  show IntKind.u32.wrap ((BitVec.ofInt 32 (U a) ^^^ BitVec.ofInt 32 (U b)).toNat : Int) = _
  rw [U_ofInt, U_ofInt]; exact U_wrap _
theorem U_and (a b : BitVec 32) : bits .and .u32 (U a) (U b) = U (a &&& b) := by
  show IntKind.u32.wrap ((BitVec.ofInt 32 (U a) &&& BitVec.ofInt 32 (U b)).toNat : Int) = _
  rw [U_ofInt, U_ofInt]; exact U_wrap _
theorem U_or (a b : BitVec 32) : bits .or .u32 (U a) (U b) = U (a ||| b) := by
  show IntKind.u32.wrap ((BitVec.ofInt 32 (U a) ||| BitVec.ofInt 32 (U b)).toNat : Int) = _
  rw [U_ofInt, U_ofInt]; exact U_wrap _
theorem U_not (a : BitVec 32) : bits .xor .u32 4294967295 (U a) = U (~~~ a) := by
  show IntKind.u32.wrap ((BitVec.ofInt 32 4294967295 ^^^ BitVec.ofInt 32 (U a)).toNat : Int) = _
  rw [U_ofInt, show BitVec.ofInt 32 4294967295 = BitVec.allOnes 32 by decide, BitVec.allOnes_xor]; exact U_wrap _
theorem U_shl (a : BitVec 32) (n : Nat) (m : Int) (h : m = ((2 ^ n : Nat) : Int)) : IntKind.u32.wrap (U a * m) = U (a <<< n) := by
  subst h
  rw [IntKind.wrap_u32, U, U, BitVec.toNat_shiftLeft, Nat.shiftLeft_eq]
  omega
theorem U_shr (a : BitVec 32) (n : Nat) (m : Int) (h : m = ((2 ^ n : Nat) : Int)) : U a / m = U (a >>> n) := by
  subst h
  rw [U, U, BitVec.toNat_ushiftRight, Nat.shiftRight_eq_div_pow]
  omega

/-- A word turned right. -/
def rotr (x : BitVec 32) (n : Nat) : BitVec 32 := x <<< (32 - n) ||| x >>> n
def S0 (x : BitVec 32) : BitVec 32 := rotr x 2 ^^^ rotr x 13 ^^^ rotr x 22
def S1 (x : BitVec 32) : BitVec 32 := rotr x 6 ^^^ rotr x 11 ^^^ rotr x 25
def s0 (x : BitVec 32) : BitVec 32 := rotr x 7 ^^^ rotr x 18 ^^^ (x >>> 3)
def s1 (x : BitVec 32) : BitVec 32 := rotr x 17 ^^^ rotr x 19 ^^^ (x >>> 10)
/-- A word turned by i and by j and shifted by k. -/
def sft (x : BitVec 32) (i j k : Int) : BitVec 32 := rotr x i.toNat ^^^ rotr x j.toNat ^^^ (x >>> k.toNat)
theorem s0_sft (x : BitVec 32) : s0 x = sft x 7 18 3 := rfl
theorem s1_sft (x : BitVec 32) : s1 x = sft x 17 19 10 := rfl

/-- The words ahead of the first block, and the words k. -/
def first8 : List (BitVec 32) := [0x6a09e667, 0xbb67ae85, 0x3c6ef372, 0xa54ff53a, 0x510e527f, 0x9b05688c, 0x1f83d9ab, 0x5be0cd19]
def k64 : List (BitVec 32) := [
  0x428a2f98, 0x71374491, 0xb5c0fbcf, 0xe9b5dba5, 0x3956c25b, 0x59f111f1, 0x923f82a4, 0xab1c5ed5,
  0xd807aa98, 0x12835b01, 0x243185be, 0x550c7dc3, 0x72be5d74, 0x80deb1fe, 0x9bdc06a7, 0xc19bf174,
  0xe49b69c1, 0xefbe4786, 0x0fc19dc6, 0x240ca1cc, 0x2de92c6f, 0x4a7484aa, 0x5cb0a9dc, 0x76f988da,
  0x983e5152, 0xa831c66d, 0xb00327c8, 0xbf597fc7, 0xc6e00bf3, 0xd5a79147, 0x06ca6351, 0x14292967,
  0x27b70a85, 0x2e1b2138, 0x4d2c6dfc, 0x53380d13, 0x650a7354, 0x766a0abb, 0x81c2c92e, 0x92722c85,
  0xa2bfe8a1, 0xa81a664b, 0xc24b8b70, 0xc76c51a3, 0xd192e819, 0xd6990624, 0xf40e3585, 0x106aa070,
  0x19a4c116, 0x1e376c08, 0x2748774c, 0x34b0bcb5, 0x391c0cb3, 0x4ed8aa4a, 0x5b9cca4f, 0x682e6ff3,
  0x748f82ee, 0x78a5636f, 0x84c87814, 0x8cc70208, 0x90befffa, 0xa4506ceb, 0xbef9a3f7, 0xc67178f2]
/-- A byte's number. -/
def Y (x : UInt8) : Int := (x.toNat : Int)
theorem Y_word (x : UInt8) : Y x = U (x.toBitVec.setWidth 32) := by
  unfold Y U
  rw [BitVec.toNat_setWidth, UInt8.toNat_toBitVec]
  have := x.toNat_lt; omega
theorem Y_wrap (x : UInt8) : IntKind.u32.wrap (Y x) = U (x.toBitVec.setWidth 32) := by rw [Y_word, U_wrap]

/-- The words of a block. -/
def byteAt (l : List UInt8) (i : Nat) : BitVec 32 := (l.getD i 0).toBitVec.setWidth 32
def wordAt (l : List UInt8) (t : Nat) : BitVec 32 := byteAt l (4 * t) <<< 24 ||| byteAt l (4 * t + 1) <<< 16 ||| byteAt l (4 * t + 2) <<< 8 ||| byteAt l (4 * t + 3)
def schedTo (l : List UInt8) : Nat → List (BitVec 32)
  | 0 => []
  | t + 1 => schedTo l t ++ [if t < 16 then wordAt l t else
      (schedTo l t).getD (t - 16) 0 + s0 ((schedTo l t).getD (t - 15) 0) + (schedTo l t).getD (t - 7) 0 + s1 ((schedTo l t).getD (t - 2) 0)]
theorem schedTo_length (l : List UInt8) : ∀ t, (schedTo l t).length = t
  | 0 => rfl
  | t + 1 => by rw [schedTo, List.length_append, schedTo_length l t]; rfl

/-- A row of words as cells: the words that are known, and zeros behind them. -/
def wcells (n : Nat) (L : List (BitVec 32)) : List Value := (L ++ List.replicate (n - L.length) 0).map fun x => Value.int .u32 (U x)
theorem wcells_get (n : Nat) (L : List (BitVec 32)) (i : Nat) (hi : i < L.length) : (wcells n L)[i]? = some (.int .u32 (U (L.getD i 0))) := by
  have h1 : (L ++ List.replicate (n - L.length) 0)[i]? = some L[i] := by rw [List.getElem?_append_left hi]; simp [hi]
  rw [wcells, List.getElem?_map, h1]; simp [List.getD, hi]
theorem wcells_zero (n : Nat) (L : List (BitVec 32)) (k : Nat) (h : L.length = k) (hk : k < n) : (wcells n L)[k]? = some (.int .u32 0) := by
  subst h
  have : (L ++ List.replicate (n - L.length) (0 : BitVec 32))[L.length]? = some 0 := by
    rw [List.getElem?_append_right (Nat.le_refl _), Nat.sub_self, List.getElem?_replicate]; simp; omega
  rw [wcells, List.getElem?_map, this]; rfl
theorem wcells_set (n : Nat) (L : List (BitVec 32)) (v : BitVec 32) (h : L.length < n) : (wcells n L).set L.length (.int .u32 (U v)) = wcells n (L ++ [v]) := by
  have : n - L.length = (n - (L.length + 1)) + 1 := by omega
  simp [wcells, this, List.replicate_succ]

theorem wcells_set' (n : Nat) (L : List (BitVec 32)) (v : BitVec 32) (k : Nat) (h : L.length = k) (hk : k < n) : (wcells n L).set k (.int .u32 (U v)) = wcells n (L ++ [v]) := by
  subst h; exact wcells_set n L v hk
theorem wcells_get' (n : Nat) (L : List (BitVec 32)) (i m : Nat) (h : L.length = m) (hi : i < m) : (wcells n L)[i]? = some (.int .u32 (U (L.getD i 0))) := wcells_get n L i (by omega)
theorem sched_low (l : List UInt8) (k : Nat) (h : k < 16) : schedTo l (k + 1) = schedTo l k ++ [wordAt l k] := by rw [schedTo, if_pos h]
theorem sched_high (l : List UInt8) (m : Nat) : schedTo l (m + 16 + 1) = schedTo l (m + 16) ++ [(schedTo l (m + 16)).getD m 0 + s0 ((schedTo l (m + 16)).getD (m + 1) 0) + (schedTo l (m + 16)).getD (m + 9) 0 + s1 ((schedTo l (m + 16)).getD (m + 14) 0)] := by
  rw [schedTo, if_neg (by omega), show m + 16 - 16 = m by omega, show m + 16 - 15 = m + 1 by omega, show m + 16 - 7 = m + 9 by omega, show m + 16 - 2 = m + 14 by omega]

theorem blk_low {w : World} {wb : Nat} {t0 : TypeId} (l : List UInt8) (k : Nat) (v : BitVec 32) (hk : k < 16) (hv : wordAt l k = v) (h : w.heap[wb]? = some (.cells (wcells 64 (schedTo l k)).toArray t0 (0, 0))) :
    (w.setCell ⟨wb, k, none⟩ (.int .u32 (U v))).heap[wb]? = some (.cells (wcells 64 (schedTo l (k + 1))).toArray t0 (0, 0)) := by
  subst hv
  rw [heap_setCell_same w wb k _ t0 _ h, sched_low l k hk, ← wcells_set' 64 _ _ k (schedTo_length l k) (by omega)]; simp
theorem blk_high {w : World} {wb : Nat} {t0 : TypeId} (l : List UInt8) (m : Nat) (v : BitVec 32) (hk : m + 16 < 64)
    (hv : schedTo l (m + 16 + 1) = schedTo l (m + 16) ++ [v]) (h : w.heap[wb]? = some (.cells (wcells 64 (schedTo l (m + 16))).toArray t0 (0, 0))) :
    (w.setCell ⟨wb, m + 16, none⟩ (.int .u32 (U v))).heap[wb]? = some (.cells (wcells 64 (schedTo l (m + 16 + 1))).toArray t0 (0, 0)) := by
  rw [heap_setCell_same w wb (m + 16) _ t0 _ h, hv, ← wcells_set' 64 _ _ (m + 16) (schedTo_length l (m + 16)) hk]; simp

/-- Below block number B the world w' is as w was, but for block b. -/
structure Save (B b : Nat) (w w' : World) : Prop where
  os : w'.os = w.os
  tape : w'.tape = w.tape
  output : w'.output = w.output
  size : w.heap.size ≤ w'.heap.size
  block : ∀ k, k < B → k ≠ b → w'.heap[k]? = w.heap[k]?
theorem Save.refl (B b : Nat) (w : World) : Save B b w w := ⟨rfl, rfl, rfl, Nat.le_refl _, fun _ _ _ => rfl⟩
theorem Save.trans {B b : Nat} {a w c : World} (h : Save B b a w) (k : Save B b w c) : Save B b a c :=
  ⟨k.os.trans h.os, k.tape.trans h.tape, k.output.trans h.output, Nat.le_trans h.size k.size, fun i hi hn => (k.block i hi hn).trans (h.block i hi hn)⟩
theorem Save.mono {B B' b : Nat} {w w' : World} (h : Save B b w w') (hB : B' ≤ B) : Save B' b w w' := ⟨h.os, h.tape, h.output, h.size, fun k hk hn => h.block k (Nat.lt_of_lt_of_le hk hB) hn⟩
theorem Save.of_below {B b : Nat} {w w' : World} (h : Below B w w') : Save B b w w' := ⟨h.os, h.tape, h.output, h.size, fun k hk _ => h.block k hk⟩
theorem Save.below {B b : Nat} {w w' : World} (h : Save B b w w') (hb : B ≤ b) : Below B w w' := ⟨h.os, h.tape, h.output, h.size, fun k hk => h.block k hk (by omega)⟩
theorem Save.drew {B b : Nat} {a w : World} (h : Save B b a w) : Save B b a w.drew := ⟨h.os, h.tape, h.output, h.size, h.block⟩
theorem Save.drewN {B b : Nat} {a w : World} (h : Save B b a w) (n : Nat) : Save B b a (w.drewN n) := ⟨h.os, h.tape, h.output, h.size, h.block⟩
theorem Save.alloc {B b : Nat} {a w : World} (h : Save B b a w) (hB : B ≤ w.heap.size) (o : Obj) : Save B b a (w.alloc o) :=
  h.trans ⟨rfl, rfl, rfl, by simp, fun k hk _ => Below.heap_alloc _ _ _ (by omega)⟩
theorem Save.setCell {B b : Nat} {a w : World} (h : Save B b a w) {p : Addr} (hp : p.block = b ∨ B ≤ p.block) (u : Value) : Save B b a (w.setCell p u) :=
  h.trans ⟨rfl, rfl, rfl, by simp [World.setCell], fun k hk hn => Below.heap_setCell _ _ _ _ (by omega)⟩
theorem Save.cell {B b : Nat} {w w' : World} (h : Save B b w w') {p : Addr} (hp : p.block < B) (hn : p.block ≠ b) : w'.cell? p = w.cell? p := World.cell?_of_block (w := w) (h.block p.block hp hn)

/-- A block known whole. -/
def Blk (w : World) (b : Nat) (cs : List Value) (t : TypeId) : Prop := w.heap[b]? = some (.cells cs.toArray t (0, 0))
theorem Blk.cell {w : World} {b : Nat} {cs : List Value} {t : TypeId} (h : Blk w b cs t) (i : Nat) : w.cell? ⟨b, i, none⟩ = cs[i]? := by
  rw [cell_of_row w b i _ t _ h]; simp
theorem Blk.free {w : World} {b : Nat} {cs : List Value} {t : TypeId} (h : Blk w b cs t) (i : Nat) : w.frozen? ⟨b, i, none⟩ = false := frozen_of_row w b i _ t h
theorem Blk.lt {w : World} {b : Nat} {cs : List Value} {t : TypeId} (h : Blk w b cs t) : b < w.heap.size := by
  rcases Nat.lt_or_ge b w.heap.size with h' | h'
  · exact h'
  · unfold Blk at h; rw [Array.getElem?_eq_none h'] at h; cases h
theorem Blk.save {B b c : Nat} {w w' : World} {cs : List Value} {t : TypeId} (h : Blk w c cs t) (hs : Save B b w w') (hc : c < B) (hn : c ≠ b) : Blk w' c cs t := (hs.block c hc hn).trans h
theorem Blk.below {B c : Nat} {w w' : World} {cs : List Value} {t : TypeId} (h : Blk w c cs t) (hs : Below B w w') (hc : c < B) : Blk w' c cs t := (hs.block c hc).trans h
theorem Blk.drew {b : Nat} {w : World} {cs : List Value} {t : TypeId} (h : Blk w b cs t) : Blk w.drew b cs t := h
theorem Blk.drewN {b : Nat} {w : World} {cs : List Value} {t : TypeId} (h : Blk w b cs t) (n : Nat) : Blk (w.drewN n) b cs t := h
theorem Blk.setCell {w : World} {b : Nat} {cs : List Value} {t : TypeId} (h : Blk w b cs t) (i : Nat) (v : Value) : Blk (w.setCell ⟨b, i, none⟩ v) b (cs.set i v) t := by
  have := heap_setCell_same w b i cs.toArray t v h
  unfold Blk; rw [this]; simp
theorem Blk.setCell_other {w : World} {b : Nat} {cs : List Value} {t : TypeId} (h : Blk w b cs t) (p : Addr) (v : Value) (hp : b ≠ p.block) : Blk (w.setCell p v) b cs t := by
  unfold Blk; rw [heap_setCell_other w p b v hp]; exact h
theorem Blk.alloc {w : World} {b : Nat} {cs : List Value} {t : TypeId} (h : Blk w b cs t) (o : Obj) : Blk (w.alloc o) b cs t := by
  unfold Blk; rw [Below.heap_alloc w o b h.lt]; exact h
theorem Blk.new (w : World) (cs : List Value) (t : TypeId) : Blk (w.alloc (.cells cs.toArray t)) w.heap.size cs t := heap_alloc_new w _
/-- Eight words; a round; a block mixed in. -/
structure S8 where
  a : BitVec 32
  b : BitVec 32
  c : BitVec 32
  d : BitVec 32
  e : BitVec 32
  f : BitVec 32
  g : BitVec 32
  h : BitVec 32
def rnd (k w : BitVec 32) (s : S8) : S8 :=
  let p := s.h + S1 s.e + ((s.e &&& s.f) ^^^ (~~~ s.e &&& s.g)) + k + w
  let q := S0 s.a + ((s.a &&& s.b) ^^^ (s.a &&& s.c) ^^^ (s.b &&& s.c))
  ⟨p + q, s.a, s.b, s.c, s.d + p, s.e, s.f, s.g⟩
def rounds (W : List (BitVec 32)) (s : S8) : Nat → S8
  | 0 => s
  | t + 1 => rnd (k64.getD t 0) (W.getD t 0) (rounds W s t)
def comp (l : List UInt8) (s : S8) : S8 :=
  let r := rounds (schedTo l 64) s 64
  ⟨s.a + r.a, s.b + r.b, s.c + r.c, s.d + r.d, s.e + r.e, s.f + r.f, s.g + r.g, s.h + r.h⟩
def S8.list (s : S8) : List (BitVec 32) := [s.a, s.b, s.c, s.d, s.e, s.f, s.g, s.h]
def S8.cells (s : S8) : List Value := s.list.map fun x => Value.int .u32 (U x)
/-- 64 zeros, written out as a walk writes them. -/
def zeros64 : Array Value := #[Value.int IntKind.u32 0, Value.int IntKind.u32 0, Value.int IntKind.u32 0, Value.int IntKind.u32 0, Value.int IntKind.u32 0, Value.int IntKind.u32 0, Value.int IntKind.u32 0, Value.int IntKind.u32 0, Value.int IntKind.u32 0, Value.int IntKind.u32 0, Value.int IntKind.u32 0, Value.int IntKind.u32 0, Value.int IntKind.u32 0, Value.int IntKind.u32 0, Value.int IntKind.u32 0, Value.int IntKind.u32 0, Value.int IntKind.u32 0, Value.int IntKind.u32 0, Value.int IntKind.u32 0, Value.int IntKind.u32 0, Value.int IntKind.u32 0, Value.int IntKind.u32 0, Value.int IntKind.u32 0, Value.int IntKind.u32 0, Value.int IntKind.u32 0, Value.int IntKind.u32 0, Value.int IntKind.u32 0, Value.int IntKind.u32 0, Value.int IntKind.u32 0, Value.int IntKind.u32 0, Value.int IntKind.u32 0, Value.int IntKind.u32 0, Value.int IntKind.u32 0, Value.int IntKind.u32 0, Value.int IntKind.u32 0, Value.int IntKind.u32 0, Value.int IntKind.u32 0, Value.int IntKind.u32 0, Value.int IntKind.u32 0, Value.int IntKind.u32 0, Value.int IntKind.u32 0, Value.int IntKind.u32 0, Value.int IntKind.u32 0, Value.int IntKind.u32 0, Value.int IntKind.u32 0, Value.int IntKind.u32 0, Value.int IntKind.u32 0, Value.int IntKind.u32 0, Value.int IntKind.u32 0, Value.int IntKind.u32 0, Value.int IntKind.u32 0, Value.int IntKind.u32 0, Value.int IntKind.u32 0, Value.int IntKind.u32 0, Value.int IntKind.u32 0, Value.int IntKind.u32 0, Value.int IntKind.u32 0, Value.int IntKind.u32 0, Value.int IntKind.u32 0, Value.int IntKind.u32 0, Value.int IntKind.u32 0, Value.int IntKind.u32 0, Value.int IntKind.u32 0, Value.int IntKind.u32 0]
theorem zeros64_eq : (wcells 64 []).toArray = zeros64 := by kernel_rfl
theorem u_eq {k : IntKind} {a b : Int} (h : a = b) : Value.int k a = Value.int k b := by rw [h]
end Go.Proofs.YthnbhaffphopoaaGreatDoor

namespace Go.Proofs.YthnbhaffphopoaaGreatDoor
open Go.RowKit

set_option maxHeartbeats 400000 in
theorem rot_nat (n : Nat) (x : BitVec 32) (w : World) (hn : 1 ≤ n ∧ n ≤ 31) :
    Calls Tryz.prog 355 #[.int .u32 (U x), .int .i64 (-(n : Int))] w fun e w' => e = .returned (.int .u32 (U (rotr x n))) ∧ w = w' := by
  have h1 : bits .and .u64 (IntKind.u64.wrap (-(n : Int))) 31 = 32 - (n : Int) := by
    obtain ⟨a, b⟩ := hn
    have : ∀ m : Fin 32, 1 ≤ m.val → bits .and .u64 (IntKind.u64.wrap (-(m.val : Int))) 31 = 32 - (m.val : Int) := by decide
    exact this ⟨n, by omega⟩ a
  have h2 := U_shl x (32 - n) (2 ^ (32 - n)) (by simp)
  have h3 := U_shr x n (2 ^ n) (by simp)
  have h4 := U_or
  have h6 : (min (32 - (n : Int)).toNat 32) = 32 - n := by omega
  have h7 : (min (n : Int).toNat 32) = n := by omega
  have h8 : (32 - (32 - (n : Int))) = n := by omega
  go_enter Tryz.func355, Tryz.ntmps355
  go_wp2
  go_ret
  exact ⟨rfl, rfl⟩
theorem rot_by (k : Int) (x : BitVec 32) (w : World) (hn : -31 ≤ k ∧ k ≤ -1) :
    Calls Tryz.prog 355 #[.int .u32 (U x), .int .i64 k] w fun e w' => e = .returned (.int .u32 (U (rotr x (-k).toNat))) ∧ w = w' := by
  obtain ⟨n, rfl⟩ : ∃ n : Nat, k = -(n : Int) := ⟨(-k).toNat, by omega⟩
  have : (- -(n : Int)).toNat = n := by omega
  rw [this]
  exact rot_nat n x w (by omega)

set_option maxHeartbeats 400000 in
theorem turns_S1 (x : BitVec 32) (w : World) :
    Calls Tryz.prog 334 #[.int .u32 (U x), .int .i64 6, .int .i64 11, .int .i64 25] w fun e w' => e = .returned (.int .u32 (U (S1 x))) ∧ w = w' := by
  have h4 := U_xor
  go_enter Tryz.func334, Tryz.ntmps334
  go_wp2_with (go_at_call 355; refine (rot_by _ _ _ (by omega)).mono ?_; rintro e w' ⟨rfl, rfl⟩)
  go_ret
  exact ⟨rfl, rfl⟩
set_option maxHeartbeats 400000 in
theorem turns_S0 (x : BitVec 32) (w : World) :
    Calls Tryz.prog 334 #[.int .u32 (U x), .int .i64 2, .int .i64 13, .int .i64 22] w fun e w' => e = .returned (.int .u32 (U (S0 x))) ∧ w = w' := by
  have h4 := U_xor
  go_enter Tryz.func334, Tryz.ntmps334
  go_wp2_with (go_at_call 355; refine (rot_by _ _ _ (by omega)).mono ?_; rintro e w' ⟨rfl, rfl⟩)
  go_ret
  exact ⟨rfl, rfl⟩
theorem quiet_same {P : Program} {f : FuncId} {args : Array Value} {w : World} {n : Nat} {v : Value}
    (h : Calls P f args (w.drewN n) fun e w' => e = .returned v ∧ w.drewN n = w') : Calls P f args (w.drewN n) fun e w'' => e = .returned v ∧ ∃ m, w'' = w.drewN m :=
  h.mono fun _ _ ⟨he, hm⟩ => ⟨he, n, hm.symm⟩

set_option maxHeartbeats 400000 in
theorem shift_any (i j k : Int) (x : BitVec 32) (w : World) (hi : 1 ≤ i ∧ i ≤ 31) (hj : 1 ≤ j ∧ j ≤ 31) (hk : 1 ≤ k ∧ k ≤ 31) :
    Calls Tryz.prog 354 #[.int .u32 (U x), .int .i64 i, .int .i64 j, .int .i64 k] w fun e w' => e = .returned (.int .u32 (U (sft x i j k))) ∧ ∃ n, w' = w.drewN n := by
  have h4 := U_xor
  have e3 : min k.toNat 32 = k.toNat := by omega
  have e0 : 0 ≤ k := by omega
  have h3 := U_shr x k.toNat (2 ^ k.toNat) (by simp)
  have e1 : IntKind.i64.wrap (-i) = -i := IntWalk.i64_in _ (by omega)
  have e2 : IntKind.i64.wrap (-j) = -j := IntWalk.i64_in _ (by omega)
  have e4 : - -i = i := by omega
  have e5 : - -j = j := by omega
  go_enter Tryz.func354, Tryz.ntmps354
  go_wp2
  go_quiet ((go_at_call 355; exact quiet_same (rot_by _ _ _ (by omega))))
  go_wp2
  go_ret
  exact ⟨rfl, _, rfl⟩

/-- The four bytes of a word. -/
def bytes4 (x : BitVec 32) : List Int := [U (x >>> 24) % 256, U (x >>> 16) % 256, U (x >>> 8) % 256, U x % 256]
set_option maxHeartbeats 400000 in
theorem four_any (x : BitVec 32) (w : World) :
    Calls Tryz.prog 272 #[.int .u32 (U x)] w fun e w' => e = .returned (.string (strOfNums (bytes4 x))) ∧ Below w.heap.size w w' := by
  have h1 := U_shr x 24 16777216 (by decide)
  have h2 := U_shr x 16 65536 (by decide)
  have h3 := U_shr x 8 256 (by decide)
  have hb := run_convert_bytes_arg (P := Tryz.prog) (w.alloc (Obj.cells
              #[Value.int IntKind.u8 (U (x >>> 24) % 256), Value.int IntKind.u8 (U (x >>> 16) % 256),
                Value.int IntKind.u8 (U (x >>> 8) % 256), Value.int IntKind.u8 (U x % 256)] 5)) 47 5 Tryz.underlying47 Tryz.underlying5 w.heap.size 0 4 4 (bytes4 x) rfl
      (fun i hi => by
        obtain rfl | rfl | rfl | rfl : i = 0 ∨ i = 1 ∨ i = 2 ∨ i = 3 := by omega
        all_goals simp [bytes4, World.cell?_alloc_at]) 9 Tryz.underlying9
  go_enter Tryz.func272, Tryz.ntmps272
  go_wp2
  go_ret
  exact ⟨rfl, (Below.refl _ _).alloc (Nat.le_refl _) _⟩
set_option maxHeartbeats 400000 in
theorem first_any (w : World) :
    Calls Tryz.prog 332 #[] w fun e w' => e = .returned (.agg (first8.map (fun x => Value.int .u32 (U x))).toArray) ∧ w' = w.alloc (Obj.cells (first8.map (fun x => Value.int .u32 (U x))).toArray 290) := by
  have e : (first8.map (fun x => Value.int .u32 (U x))).toArray =  #[Value.int IntKind.u32 1779033703, Value.int IntKind.u32 3144134277, Value.int IntKind.u32 1013904242,
          Value.int IntKind.u32 2773480762, Value.int IntKind.u32 1359893119, Value.int IntKind.u32 2600822924,
          Value.int IntKind.u32 528734635, Value.int IntKind.u32 1541459225] := by kernel_rfl
  rw [e]
  clear e
  go_enter Tryz.func332, Tryz.ntmps332
  go_wp2
  refine bodyPost_ret (v := .agg #[Value.int IntKind.u32 1779033703, Value.int IntKind.u32 3144134277, Value.int IntKind.u32 1013904242,
          Value.int IntKind.u32 2773480762, Value.int IntKind.u32 1359893119, Value.int IntKind.u32 2600822924,
          Value.int IntKind.u32 528734635, Value.int IntKind.u32 1541459225]) ?_ rfl ⟨rfl, rfl⟩
  simp [results, Tryz.results332, go_sem]
end Go.Proofs.YthnbhaffphopoaaGreatDoor

namespace Go.Proofs.YthnbhaffphopoaaGreatDoor
open Go

section
variable {P : Program} {ops : Array Oper} {md : Region.Mode} {C : World → Prop}

/-- Whatever order is picked of the first n operations; at its end L holds. -/
def headQ (P : Program) (md : Region.Mode) (ops : Array Oper) (C : World → Prop) (n : Nat) (L : Array Bool → Act → Prop) : Nat → Array Bool → Act → Prop
  | 0, listed, a => L listed a
  | f + 1, listed, a => Region.ready md ops listed ≠ [] ∧ ∀ i ∈ Region.ready md ops listed, i < n ∧ qOp P ops C i (headQ P md ops C n L f (listed.setIfInBounds i true)) a

theorem any_of_headQ {n g : Nat} {L : Array Bool → Act → Prop} {Q' : Exit → Act → World → Prop} (hL : ∀ listed a w, C w → L listed a → wpAny P md ops Q' g listed a w) :
    ∀ (f : Nat) (listed : Array Bool) (a : Act) (w : World), C w → headQ P md ops C n L f listed a → wpAny P md ops Q' (f + g) listed a w
  | 0, listed, a, w, hw, h => by rw [Nat.zero_add]; exact hL _ _ _ hw h
  | f + 1, listed, a, w, hw, h => by
    rw [show f + 1 + g = (f + g) + 1 by omega]
    exact ⟨fun h0 => absurd h0 h.1, fun i hi => wpOp_of_qOp hw (fun a' w' hw' h' => any_of_headQ hL f _ a' w' hw' h') (h.2 i hi).2⟩

theorem headQ_first {n i : Nat} {oi : Oper} {v : Value} {L : Array Bool → Act → Prop} (hi : ops[i]? = some oi) (hsel : ∀ (j : Nat) (o : Oper) cs b, ops[j]? = some o → o.op ≠ .select cs b)
    (hs : Region.sinkB md ops n = true) (hc : Region.chainB md ops n = true) (hn : n < ops.size) (hin : i < n)
    (hdone : ∀ listed a, L listed a → ∀ j ∈ Region.ready md ops listed, n ≤ j) :
    ∀ (f : Nat) (listed : Array Bool) (a : Act), HeadInv md ops n listed →
      (∀ j oj, ops[j]? = some oj → j ≠ i → listed.getD j true = false → (∀ e ∈ oj.after, Region.binds md e = true → e.on ≠ i) → oi.apart ops oj = true) →
      i ∈ Region.ready md ops listed → YieldsIn P ops C oi v a →
      headQ P md ops C n L f (listed.setIfInBounds i true) (a.put oi.dst v) → headQ P md ops C n L (f + 1) listed a := by
  intro f
  induction f with
  | zero =>
    intro listed a inv _ hr hy H
    have hun := (mem_ready.1 hr).1
    refine ⟨fun h => (by rw [h] at hr; cases hr), fun j hj => ?_⟩
    have hjn : j < n := by
      rcases Nat.lt_or_ge j n with h | h
      · exact h
      · exact absurd hj (tail_waits hs hc hn inv _ i rfl hin hun j h)
    refine ⟨hjn, ?_⟩
    by_cases hji : j = i
    · subst hji; exact hy.qOp hi H
    · have := hdone _ _ H j (ready_mono hj hji)
      omega
  | succ f ih =>
    intro listed a inv hfree hr hy H
    have hun := (mem_ready.1 hr).1
    refine ⟨fun h => (by rw [h] at hr; cases hr), fun j hj => ?_⟩
    have hjn : j < n := by
      rcases Nat.lt_or_ge j n with h | h
      · exact h
      · exact absurd hj (tail_waits hs hc hn inv _ i rfl hin hun j h)
    refine ⟨hjn, ?_⟩
    by_cases hji : j = i
    · subst hji; exact hy.qOp hi H
    · have h1 := (H.2 j (ready_mono hj hji)).2
      obtain ⟨hjun, oj, hoj, hall⟩ := mem_ready.1 hj
      have hnot : ∀ e ∈ oj.after, Region.binds md e = true → e.on ≠ i := fun e he hb heq => by
        have h1 := hall e he hb
        rw [heq, getD_both hun] at h1
        cases h1
      have h2 := qOp_put hoj (hfree j oj hoj hji hjun hnot) (fun cs b => hsel i oi cs b hi) (fun cs b => hsel j oj cs b hoj) hy h1
      have hfree' : ∀ k ok, ops[k]? = some ok → k ≠ i → (listed.setIfInBounds j true).getD k true = false →
          (∀ e ∈ ok.after, Region.binds md e = true → e.on ≠ i) → oi.apart ops ok = true := fun k ok hk hki hun hno => by
        refine hfree k ok hk hki ?_ hno
        by_cases hjk : j = k
        · subst hjk; exact hjun
        · rw [getD_set_ne true hjk] at hun; exact hun
      refine qOp_mono (fun a' h3 => ih (listed.setIfInBounds j true) a' (inv.set hj hjn) hfree' (ready_mono hr (Ne.symm hji)) h3.1 ?_) h2
      rw [Array.setIfInBounds_comm _ _ hji]
      exact h3.2

theorem headQ_lex {n g : Nat} {Lq : Act → Prop} (hsel : Region.noSelect ops = true) (hs : Region.sinkB md ops n = true) (hc : Region.chainB md ops n = true) (hn : n < ops.size) :
    ∀ (l : List Oper) (k : Nat) (listed : Array Bool) (a : Act), (∀ j, j < l.length → l[j]? = ops[k + j]?) → k + l.length = n → HeadInv md ops n listed →
    Region.lexHead md ops g l.length k listed = true → wpQuiet P ops C Lq l a →
    headQ P md ops C n (fun listed' a' => Region.seqB md ops g n listed' = true ∧ Lq a') l.length listed a
  | [], k, listed, a, _, hk, _, hB, h => by
    have : k = n := by simpa using hk
    subst this
    exact ⟨by simpa [Region.lexHead] using hB, h⟩
  | o :: l, k, listed, a, hl, hk, inv, hB, h => by
    have h0 : ops[k]? = some o := by simpa using (hl 0 (by simp)).symm
    simp only [List.length_cons, Region.lexHead, Bool.and_eq_true] at hB
    obtain ⟨⟨hr, hf⟩, hB'⟩ := hB
    have hkn : k < n := by simp only [List.length_cons] at hk; omega
    have hr' : k ∈ Region.ready md ops listed := by simpa using hr
    have hst : qOp P ops C k (wpQuiet P ops C Lq l) a := by unfold qOp; simp only [h0]; exact h
    obtain ⟨v, hy, hK⟩ := yieldsIn_of_qOp h0 hst
    exact headQ_first h0 (Region.noSelect_spec hsel) hs hc hn hkn (fun listed' a' hL => seqB_ready hL.1) l.length listed a inv (Region.free_spec h0 hf) hr' hy
      (headQ_lex hsel hs hc hn l (k + 1) _ _ (fun j hj => by have := hl (j + 1) (by simp; omega); simpa [Nat.add_assoc, Nat.add_comm 1 j] using this) (by simp only [List.length_cons] at hk; omega) (inv.set hr' hkn) hB' hK)

/-- The region: its first n operations quiet in the class C, the rest walked behind them in any world of the class. -/
theorem region_quiet_tail {id : Nat} {Q : Exit → Act → World → Prop} {a : Act} {w : World} {l : List Oper} (n : Nat) (hm : P.follows .mixedOrders = true) (hB : Region.lexTailB .any l.toArray n = true)
    (hC : C { w with drawn := w.drawn + 1 })
    (h : wpQuiet P l.toArray C (fun a' => ∀ w', C w' → wpList P l.toArray Q (l.drop n) a' w') (l.take n) a) : (Code.region id l.toArray true).wp P Q a w := by
  simp only [Region.lexTailB, Bool.and_eq_true, decide_eq_true_eq] at hB
  obtain ⟨⟨⟨⟨hsel, hn⟩, hs⟩, hc⟩, hlex⟩ := hB
  have hn' : n < l.length := by simpa using hn
  have htl : (l.take n).length = n := by simp; omega
  have hdl : (l.drop n).length = l.toArray.size - n := by simp
  have inv0 : HeadInv .any l.toArray n (Array.replicate l.toArray.size false) :=
    ⟨by simp, fun j oj _ hl => (by rw [getD_replicate_false] at hl; cases hl), fun t _ ht => getD_in (by simpa using ht) (getD_replicate_false _ _)⟩
  have H := headQ_lex (C := C) (md := .any) (g := l.toArray.size - n) hsel hs hc hn (l.take n) 0 _ a (fun j hj => by
    have hj' : j < n := by rw [htl] at hj; exact hj
    simp [hj']) (by simpa using htl) inv0 (by rw [htl]; exact hlex) h
  refine wp_region_any hm ?_
  have := any_of_headQ (Q' := Q) (g := l.toArray.size - n) (fun listed a' w' hw' hL => by
    have := wpAny_of_seq (md := .any) (Q' := Q) (l.drop n) n listed a' w' (fun j => by simp [List.getElem?_drop]) (by rw [hdl]; exact hL.1) (hL.2 w' hw')
    rwa [hdl] at this) _ _ _ _ hC H
  rw [htl, show n + (l.toArray.size - n) = l.toArray.size by omega] at this
  exact this

/-- The same at the class 'w after some draws'. -/
theorem region_quiet_tail_lit {id : Nat} {Q : Exit → Act → World → Prop} {a : Act} {w : World} {l : List Oper} (n : Nat) (hm : P.follows .mixedOrders = true) (hB : Region.lexTailB .any l.toArray n = true)
    (h : wpQuiet P l.toArray (fun w' => ∃ n, w' = w.drewN n) (fun a' => ∀ w', (∃ n, w' = w.drewN n) → wpList P l.toArray Q (l.drop n) a' w') (l.take n) a) : (Code.region id l.toArray true).wp P Q a w :=
  region_quiet_tail (C := fun w' => ∃ n, w' = w.drewN n) n hm hB ⟨1, rfl⟩ h
end
end Go.Proofs.YthnbhaffphopoaaGreatDoor

namespace Go.Proofs.YthnbhaffphopoaaGreatDoor
open Go.RowKit

set_option maxHeartbeats 4000000 in
set_option maxRecDepth 100000 in
theorem spread_any (wb b o : Nat) (l : List UInt8) (w : World) (t0 : TypeId) (hne : wb ≠ b)
    (hw : Blk w wb (wcells 64 []) t0) (hc : ∀ i, i < 64 → w.cell? ⟨b, o + i, none⟩ = some (.int .u8 (Y (l.getD i 0)))) :
    Calls Tryz.prog 333 #[.pointer (some ⟨wb, 0, none⟩), .pointer (some ⟨b, o, none⟩)] w fun e w' => e = .returned (.tuple #[]) ∧ Blk w' wb (wcells 64 (schedTo l 64)) t0 ∧ Save w.heap.size wb w w' := by
  go_enter Tryz.func333, Tryz.ntmps333
  go_wp2
  go_loopw [4, 5, 7] (fun _ _ q wr => ∃ k : Nat, k ≤ 16 ∧ q = .int .i64 k ∧ Blk wr wb (wcells 64 (schedTo l k)) t0 ∧ Save w.heap.size wb w wr) (fun _ _ q _ => 16 - (intOf q).toNat)
  case atStart => exact ⟨0, by omega, rfl, hw, Save.refl _ _ _⟩
  case round =>
    obtain ⟨k, hk, rfl, hW, hS⟩ := hrel
    have hbb : b < w.heap.size := block_lt_of_cell (hc 0 (by omega))
    have hfz := hW.free k
    by_cases hlt : k < 16
    · have hst : wr.cell? ⟨wb, k, none⟩ = some (.int .u32 0) := by
        rw [hW.cell]; exact wcells_zero 64 _ k (schedTo_length l k) (by omega)
      have hr : ∀ i, i < 64 → wr.cell? ⟨b, o + i, none⟩ = some (.int .u8 (Y (l.getD i 0))) := fun i hi => by
        rw [hS.cell (p := ⟨b, o + i, none⟩) hbb (fun h => hne h.symm)]; exact hc i hi
      obtain ⟨y0, hy0⟩ : ∃ y, l.getD (4 * k) 0 = y := ⟨_, rfl⟩
      obtain ⟨y1, hy1⟩ : ∃ y, l.getD (4 * k + 1) 0 = y := ⟨_, rfl⟩
      obtain ⟨y2, hy2⟩ : ∃ y, l.getD (4 * k + 2) 0 = y := ⟨_, rfl⟩
      obtain ⟨y3, hy3⟩ : ∃ y, l.getD (4 * k + 3) 0 = y := ⟨_, rfl⟩
      have c0 := hr (4 * k) (by omega)
      have c1 := hr (4 * k + 1) (by omega)
      have c2 := hr (4 * k + 2) (by omega)
      have c3 := hr (4 * k + 3) (by omega)
      rw [hy0] at c0; rw [hy1] at c1; rw [hy2] at c2; rw [hy3] at c3
      have HY : Hid (wordAt l k = y0.toBitVec.setWidth 32 <<< 24 ||| y1.toBitVec.setWidth 32 <<< 16 ||| y2.toBitVec.setWidth 32 <<< 8 ||| y3.toBitVec.setWidth 32) := by
        show _ = _
        simp only [wordAt, byteAt, hy0, hy1, hy2, hy3]
      clear hr hy0 hy1 hy2 hy3 hc
      go_wp2
      have ux := Y_wrap
      have uo := U_or
      have us1 := fun a => U_shl a 24 16777216 (by decide)
      have us2 := fun a => U_shl a 16 65536 (by decide)
      have us3 := fun a => U_shl a 8 256 (by decide)
      refine region_quiet_tail_lit 37 (by kernel_rfl) (by kernel_rfl) ?_
      simp only [List.take_succ_cons, List.take_zero, List.drop_succ_cons, List.drop_zero]
      repeat (go_big_quiet_step (fail))
      refine wpQuiet_nil ?_
      intro _ hw'
      obtain ⟨nq, hw''⟩ := hw'
      subst hw''
      go_wp2
      have hS' := hS.drewN nq
      have hm : 16 - (intOf (Value.int IntKind.i64 (↑k + 1))).toNat < 16 - (intOf (Value.int IntKind.i64 ↑k)).toNat := by simp [intOf]; omega
      refine ⟨⟨k + 1, by omega, by go_num, ?_, ?_⟩, hm⟩
      rotate_left
      · exact hS'.setCell (.inl rfl) _
      exact blk_low l k _ hlt HY.out hW
    · obtain rfl : k = 16 := by omega
      clear hfz hlt hk hc
      go_wp2
      go_loopw [6] (fun q wr => ∃ k : Nat, 16 ≤ k ∧ k ≤ 64 ∧ q = .int .i64 k ∧ Blk wr wb (wcells 64 (schedTo l k)) t0 ∧ Save w.heap.size wb w wr) (fun q _ => 64 - (intOf q).toNat)
      case atStart => exact ⟨16, by omega, by omega, rfl, hW, hS⟩
      case round =>
        clear hW hS
        rename_i wq
        obtain ⟨k, hk0, hk, rfl, hW, hS⟩ := hrel
        by_cases hlt : k < 64
        · obtain ⟨m, rfl⟩ : ∃ m, k = m + 16 := ⟨k - 16, by omega⟩
          have hfz := hW.free (m + 16)
          have hst := hW.cell (m + 16)
          rw [wcells_zero 64 _ _ (schedTo_length l (m + 16)) (by omega)] at hst
          have c0 := hW.cell m
          rw [wcells_get' 64 _ _ _ (schedTo_length l (m + 16)) (by omega)] at c0
          have c1 := hW.cell (m + 1)
          rw [wcells_get' 64 _ _ _ (schedTo_length l (m + 16)) (by omega)] at c1
          have c2 := hW.cell (m + 9)
          rw [wcells_get' 64 _ _ _ (schedTo_length l (m + 16)) (by omega)] at c2
          have c3 := hW.cell (m + 14)
          rw [wcells_get' 64 _ _ _ (schedTo_length l (m + 16)) (by omega)] at c3
          have HS := sched_high l m
          rw [s0_sft, s1_sft] at HS
          replace HS := Lib.hid HS
          generalize (schedTo l (m + 16)).getD m 0 = x0 at c0 HS
          generalize (schedTo l (m + 16)).getD (m + 1) 0 = x1 at c1 HS
          generalize (schedTo l (m + 16)).getD (m + 9) 0 = x2 at c2 HS
          generalize (schedTo l (m + 16)).getD (m + 14) 0 = x3 at c3 HS
          go_wp2
          have ua := U_add
          refine region_quiet_tail_lit 33 (by kernel_rfl) (by kernel_rfl) ?_
          simp only [List.take_succ_cons, List.take_zero, List.drop_succ_cons, List.drop_zero]
          repeat (go_big_quiet_step ((go_at_call 354; exact Calls.quiet_of (shift_any _ _ _ _ _ (by omega) (by omega) (by omega)))))
          refine wpQuiet_nil ?_
          intro _ hw'
          obtain ⟨nq, hw''⟩ := hw'
          subst hw''
          go_wp2
          have hS' := hS.drewN nq
          have hm : 64 - (intOf (Value.int IntKind.i64 (↑(m + 16) + 1))).toNat < 64 - (intOf (Value.int IntKind.i64 ↑(m + 16))).toNat := by simp [intOf]; omega
          refine ⟨⟨m + 16 + 1, by omega, by omega, by go_num, ?_, ?_⟩, hm⟩
          rotate_left
          · exact hS'.setCell (.inl rfl) _
          exact blk_high l m _ hlt HS.out hW
        · obtain rfl : k = 64 := by omega
          go_wp2
          go_end0
          exact ⟨rfl, hW, hS⟩
end Go.Proofs.YthnbhaffphopoaaGreatDoor

namespace Go.Proofs.YthnbhaffphopoaaGreatDoor
open Go.RowKit

/-- A fact in a box that nothing looks into. -/
structure Box (p : Prop) : Prop where
  out : p
/-- The second world is the first after some draws. -/
structure Drawn (w w' : World) : Prop where
  out : ∃ n, w' = w.drewN n
theorem Drawn.drewN {w w' : World} (h : Drawn w w') (n : Nat) : Drawn w (w'.drewN n) := by
  obtain ⟨m, rfl⟩ := h.out
  exact ⟨_, World.drewN_drewN _ _ _⟩
theorem Drawn.of2 (w : World) (n m : Nat) : Drawn w ((w.drewN n).drewN m) := ⟨_, World.drewN_drewN _ _ _⟩
theorem Drawn.blk {w w' : World} (h : Drawn w w') {b : Nat} {cs : List Value} {t : TypeId} (hb : Blk w b cs t) : Blk w' b cs t := by
  obtain ⟨m, rfl⟩ := h.out; exact hb
theorem Drawn.cell {w w' : World} (h : Drawn w w') (p : Addr) : w'.cell? p = w.cell? p := by
  obtain ⟨m, rfl⟩ := h.out; rfl
theorem Drawn.below {B : Nat} {w w' : World} (h : Drawn w w') : Below B w w' := by
  obtain ⟨m, rfl⟩ := h.out; exact ⟨rfl, rfl, rfl, Nat.le_refl _, fun _ _ => rfl⟩
theorem set8 {w : World} {b : Nat} {t0 : TypeId} {rest : List Value} (st : S8) (x0 x1 x2 x3 x4 x5 x6 x7 : BitVec 32) (h : Blk w b (st.cells ++ rest) t0) :
    Blk ((((((((w.setCell ⟨b, 0, none⟩ (.int .u32 (U x0))).setCell ⟨b, 1, none⟩ (.int .u32 (U x1))).setCell ⟨b, 2, none⟩ (.int .u32 (U x2))).setCell ⟨b, 3, none⟩ (.int .u32 (U x3))).setCell ⟨b, 4, none⟩ (.int .u32 (U x4))).setCell ⟨b, 5, none⟩ (.int .u32 (U x5))).setCell ⟨b, 6, none⟩ (.int .u32 (U x6))).setCell ⟨b, 7, none⟩ (.int .u32 (U x7)))
      b ((S8.mk x0 x1 x2 x3 x4 x5 x6 x7).cells ++ rest) t0 := by
  have := (((((((h.setCell 0 (.int .u32 (U x0))).setCell 1 (.int .u32 (U x1))).setCell 2 (.int .u32 (U x2))).setCell 3 (.int .u32 (U x3))).setCell 4 (.int .u32 (U x4))).setCell 5 (.int .u32 (U x5))).setCell 6 (.int .u32 (U x6))).setCell 7 (.int .u32 (U x7))
  simpa [S8.cells, S8.list] using this
theorem set8_save {w w0 : World} {b B : Nat} (h : Save B b w0 w) (x0 x1 x2 x3 x4 x5 x6 x7 : Value) :
    Save B b w0 ((((((((w.setCell ⟨b, 0, none⟩ x0).setCell ⟨b, 1, none⟩ x1).setCell ⟨b, 2, none⟩ x2).setCell ⟨b, 3, none⟩ x3).setCell ⟨b, 4, none⟩ x4).setCell ⟨b, 5, none⟩ x5).setCell ⟨b, 6, none⟩ x6).setCell ⟨b, 7, none⟩ x7) :=
  (((((((h.setCell (.inl rfl) _).setCell (.inl rfl) _).setCell (.inl rfl) _).setCell (.inl rfl) _).setCell (.inl rfl) _).setCell (.inl rfl) _).setCell (.inl rfl) _).setCell (.inl rfl) _
/-- These are a block's words. -/
structure SchedIs (l : List UInt8) (W : List (BitVec 32)) : Prop where
  eq : W = schedTo l 64
theorem SchedIs.len {l : List UInt8} {W : List (BitVec 32)} (h : SchedIs l W) : W.length = 64 := by rw [h.eq]; exact schedTo_length l 64

/-- After k rounds the eight words are these. -/
structure RoundsAre (W : List (BitVec 32)) (st : S8) (k : Nat) (a b c d e f g h : BitVec 32) : Prop where
  eq : rounds W st k = ⟨a, b, c, d, e, f, g, h⟩
theorem RoundsAre.zero (W : List (BitVec 32)) (st : S8) : RoundsAre W st 0 st.a st.b st.c st.d st.e st.f st.g st.h := ⟨rfl⟩
theorem RoundsAre.step {W : List (BitVec 32)} {st : S8} {k : Nat} {a b c d e f g h kt wt : BitVec 32} (H : RoundsAre W st k a b c d e f g h) (hk : Box (k64.getD k 0 = kt)) (hw : Box (W.getD k 0 = wt)) :
    RoundsAre W st (k + 1) (h + S1 e + ((e &&& f) ^^^ (~~~ e &&& g)) + kt + wt + (S0 a + ((a &&& b) ^^^ (a &&& c) ^^^ (b &&& c)))) a b c (d + (h + S1 e + ((e &&& f) ^^^ (~~~ e &&& g)) + kt + wt)) e f g := by
  obtain ⟨rfl⟩ := hk
  obtain ⟨rfl⟩ := hw
  constructor
  rw [rounds, H.eq]; rfl
theorem RoundsAre.comp {l : List UInt8} {W : List (BitVec 32)} {st : S8} {a b c d e f g h : BitVec 32} (hW : SchedIs l W) (H : RoundsAre W st 64 a b c d e f g h) :
    comp l st = ⟨st.a + a, st.b + b, st.c + c, st.d + d, st.e + e, st.f + f, st.g + g, st.h + h⟩ := by
  have e := H.eq
  rw [hW.eq] at e
  rw [Proofs.YthnbhaffphopoaaGreatDoor.comp, e]
end Go.Proofs.YthnbhaffphopoaaGreatDoor

namespace Go.Proofs.YthnbhaffphopoaaGreatDoor
open Go.RowKit

/-- The words k stand where the program keeps them. -/
def KIs (w : World) : Prop := ∀ i, i < 64 → w.cell? ⟨6, i, none⟩ = some (.int .u32 (U (k64.getD i 0)))
theorem KIs.lt {w : World} (h : KIs w) : 6 < w.heap.size := block_lt_of_cell (h 0 (by omega))
theorem KIs.below {B : Nat} {w w' : World} (h : KIs w) (hb : Below B w w') (hB : 6 < B) : KIs w' := fun i hi => by
  rw [hb.cell (p := ⟨6, i, none⟩) hB]; exact h i hi
theorem KIs.save {B b : Nat} {w w' : World} (h : KIs w) (hb : Save B b w w') (hB : 6 < B) (hn : b ≠ 6) : KIs w' := fun i hi => by
  rw [hb.cell (p := ⟨6, i, none⟩) hB hn.symm]; exact h i hi

theorem spread_new (b : Nat) (l : List UInt8) (st : S8) (rest : List Value) (w : World) (t0 : TypeId)
    (hb : Blk w b (st.cells ++ rest) t0) (hr : ∀ i, i < 64 → rest[i]? = some (.int .u8 (Y (l.getD i 0)))) (hK : KIs w) :
    Calls Tryz.prog 333 #[.pointer (some ⟨w.heap.size, 0, none⟩), .pointer (some ⟨b, 8, none⟩)] (w.alloc (.cells zeros64 291)) fun e w1 => e = .returned (.tuple #[]) ∧
      (∃ W, SchedIs l W ∧ Blk w1 w.heap.size (wcells 64 W) 291) ∧ Blk w1 b (st.cells ++ rest) t0 ∧ Below w.heap.size w w1 ∧ KIs w1 := by
  have hlt := hb.lt
  have hcb : ∀ i, i < 64 → w.cell? ⟨b, 8 + i, none⟩ = some (.int .u8 (Y (l.getD i 0))) := fun i hi => by
    rw [hb.cell, List.getElem?_append_right (by simp [S8.cells, S8.list])]
    have : (8 + i - st.cells.length) = i := by simp [S8.cells, S8.list]
    rw [this]; exact hr i hi
  have hcs : ∀ i, i < 64 → (w.alloc (.cells (wcells 64 []).toArray 291)).cell? ⟨b, 8 + i, none⟩ = some (.int .u8 (Y (l.getD i 0))) := fun i hi => by
    rw [World.cell?_alloc_past _ _ _ hlt]; exact hcb i hi
  have hW0 := Blk.new w (wcells 64 []) 291
  have hne : w.heap.size ≠ b := by omega
  have H1 := spread_any w.heap.size b 8 l _ 291 hne hW0 hcs
  rw [zeros64_eq] at H1
  refine H1.mono fun e w1 ⟨h0, h1, h2⟩ => ?_
  have h3 : Below w.heap.size w w1 := ((Below.refl _ w).alloc (Nat.le_refl _) _).trans ((h2.mono (by simp)).below (Nat.le_refl _))
  exact ⟨h0, ⟨_, ⟨rfl⟩, h1⟩, hb.below h3 hlt, h3, hK.below h3 hK.lt⟩

set_option maxHeartbeats 800000 in
set_option maxRecDepth 100000 in
theorem mix_any (b : Nat) (l : List UInt8) (st : S8) (rest : List Value) (w : World) (t0 : TypeId)
    (hb : Blk w b (st.cells ++ rest) t0) (hr : ∀ i, i < 64 → rest[i]? = some (.int .u8 (Y (l.getD i 0))))
    (hK : KIs w) :
    Calls Tryz.prog 302 #[.pointer (some ⟨b, 0, none⟩), .pointer (some ⟨b, 8, none⟩)] w fun e w' => e = .returned (.tuple #[]) ∧ Blk w' b ((comp l st).cells ++ rest) t0 ∧ Save w.heap.size b w w' := by
  have hlt := hb.lt
  go_enter Tryz.func302, Tryz.ntmps302
  go_wp2_with (go_at_call 333; refine (spread_new b l st rest w t0 hb hr hK).mono ?_; rintro e w1 ⟨rfl, ⟨W, hWW, hW1⟩, hb1, hB1, hK1⟩)
  have c0 := hb1.cell 0
  have c1 := hb1.cell 1
  have c2 := hb1.cell 2
  have c3 := hb1.cell 3
  have c4 := hb1.cell 4
  have c5 := hb1.cell 5
  have c6 := hb1.cell 6
  have c7 := hb1.cell 7
  simp only [S8.cells, S8.list, List.map_cons, List.cons_append, List.getElem?_cons_zero, List.getElem?_cons_succ] at c0 c1 c2 c3 c4 c5 c6 c7
  go_quiet (fail)
  go_wp2
  go_quiet (fail)
  go_wp2
  go_loopw [5, 6, 7, 8, 9, 10, 11, 12, 50] (fun s5 s6 s7 s8 s9 s10 s11 s12 q wr => ∃ (k : Nat) (a b c d e f g h : BitVec 32), k ≤ 64 ∧ q = .int .i64 k ∧ Drawn w1 wr ∧ RoundsAre W st k a b c d e f g h ∧
      s5 = .int .u32 (U a) ∧ s6 = .int .u32 (U b) ∧ s7 = .int .u32 (U c) ∧ s8 = .int .u32 (U d) ∧ s9 = .int .u32 (U e) ∧ s10 = .int .u32 (U f) ∧ s11 = .int .u32 (U g) ∧ s12 = .int .u32 (U h)) (fun _ _ _ _ _ _ _ _ q _ => 64 - (intOf q).toNat)
  case atStart => exact ⟨0, _, _, _, _, _, _, _, _, by omega, rfl, Drawn.of2 _ _ _, RoundsAre.zero W st, rfl, rfl, rfl, rfl, rfl, rfl, rfl, rfl⟩
  case round =>
    obtain ⟨k, a, b', c, d, e, f, g, h, hk, rfl, HD, HR, rfl, rfl, rfl, rfl, rfl, rfl, rfl, rfl⟩ := hrel
    by_cases hk64 : k < 64
    · have kk := hK1 k hk64
      rw [← HD.cell] at kk
      have ww := (HD.blk hW1).cell k
      rw [wcells_get' 64 _ _ _ hWW.len hk64] at ww
      obtain ⟨kt, hkt⟩ : ∃ x, k64.getD k 0 = x := ⟨_, rfl⟩
      obtain ⟨wt, hwt⟩ : ∃ x, W.getD k 0 = x := ⟨_, rfl⟩
      rw [hkt] at kk
      rw [hwt] at ww
      have HK := Box.mk hkt
      have HW := Box.mk hwt
      clear hkt hwt
      clear c0 c1 c2 c3 c4 c5 c6 c7 hW1 hK1 hb1 hB1 hb hr hK
      go_wp2_with fail
      have ua := U_add
      have ux := U_xor
      have un := U_and
      have uo := U_not
      have us : (if IntKind.u32.signed = true then (-1 : Int) else IntKind.u32.max) = 4294967295 := by decide
      go_quiet ((go_at_call 334; exact quiet_same (turns_S1 _ _)))
      go_wp2_with (go_at_call 334; refine (turns_S0 _ _).mono ?_; rintro e w' ⟨rfl, rfl⟩)
      have hm : 64 - (intOf (Value.int IntKind.i64 (↑k + 1))).toNat < 64 - (intOf (Value.int IntKind.i64 ↑k)).toNat := by simp [intOf]; omega
      exact ⟨⟨k + 1, _, _, _, _, _, _, _, _, by omega, by go_num, HD.drewN nq, HR.step HK HW, rfl, rfl, rfl, rfl, rfl, rfl, rfl, rfl⟩, hm⟩
    · obtain rfl : k = 64 := by omega
      have HB := Box.mk (HR.comp hWW)
      have hb2 := HD.blk hb1
      have hS2 : Save w.heap.size b w wr := Save.of_below (hB1.trans HD.below)
      clear hK1 hW1 hWW HR HD hB1 hb1 hr hK hb
      have z0 := hb2.cell 0
      have z1 := hb2.cell 1
      have z2 := hb2.cell 2
      have z3 := hb2.cell 3
      have z4 := hb2.cell 4
      have z5 := hb2.cell 5
      have z6 := hb2.cell 6
      have z7 := hb2.cell 7
      simp only [S8.cells, S8.list, List.map_cons, List.cons_append, List.getElem?_cons_zero, List.getElem?_cons_succ] at z0 z1 z2 z3 z4 z5 z6 z7
      clear c0 c1 c2 c3 c4 c5 c6 c7
      have f0 := hb2.free 0
      have f1 := hb2.free 1
      have f2 := hb2.free 2
      have f3 := hb2.free 3
      have f4 := hb2.free 4
      have f5 := hb2.free 5
      have f6 := hb2.free 6
      have f7 := hb2.free 7
      have ua := U_add
      have HB2 := Box.mk hb2
      have HS2 := Box.mk hS2
      clear hb2 hS2
      go_wp2_with fail
      go_region
      go_wp2_with fail
      go_region
      go_wp2_with fail
      go_region
      go_wp2_with fail
      go_region
      go_wp2_with fail
      go_region
      go_wp2_with fail
      go_region
      go_wp2_with fail
      go_region
      go_wp2_with fail
      go_region
      go_wp2_with fail
      go_end0
      refine ⟨rfl, ?_, ?_⟩
      · rw [HB.out]
        iterate 8 with_reducible apply Blk.drew
        with_reducible exact set8 st _ _ _ _ _ _ _ _ HB2.out
      · iterate 8 with_reducible apply Save.drew
        with_reducible exact set8_save HS2.out _ _ _ _ _ _ _ _
end Go.Proofs.YthnbhaffphopoaaGreatDoor

namespace Go.Proofs.YthnbhaffphopoaaGreatDoor
open Go Go.RowKit Go.ChangeShapes Go.WideShapes

section
variable {H : Type} {enc : TypeId × Value → H} {P : Program}
/-- Arguments that were read read the same behind a call that changed nothing that was there. -/
theorem all_below (hl : laidOutB P = true) {W W' : World} (hb : Below W.heap.size W W') (sp : Nat → Bool) : ∀ {ts : List TypeId} {vs : List Value} {ds : List (DataW H)} {ps : List MemPlace},
    (∀ t ∈ ts, P.readableRec t = true ∧ t < P.types.size) → DataW.TrodAll enc P W 0 (fun _ => true) true ts vs ds ps → (∀ p ∈ ps, p.block < W.heap.size) → (∀ p ∈ ps, sp p.block = true) →
    DataW.TrodAll enc P W' 0 sp true ts vs ds ps
  | [], vs, ds, ps, _, h, _, _ => by
    obtain ⟨rfl, rfl, rfl⟩ := trodAll_nil h
    rfl
  | t :: ts, vs, ds, ps, ht, h, hlt, hsp => by
    obtain ⟨v, vs', d, ds', p, q, rfl, rfl, rfl, h0, hr⟩ := trodAll_cons h
    have h1 := ht t (by simp)
    refine trodAll_cons_mk (WideElems.Trod_stays hl h1.1 h1.2 h0 (fun x hx => hb.same (hlt x (by simp [hx]))) (fun x hx => hsp x (by simp [hx]))) ?_
    exact all_below hl hb sp (fun t' h' => ht t' (by simp [h'])) hr (fun x hx => hlt x (by simp [hx])) (fun x hx => hsp x (by simp [hx]))

theorem law_post {f : Func} {s : ChangeSpec} {apart fresh handsOn again : Bool} {W W' : World} {args : Array Value} {ds gs : List (DataW H)} {before : List MemPlace} {tb : TypeId}
    (hl : laidOutB P = true) (hts : ∀ t ∈ f.params.toList, P.readableRec t = true ∧ t < P.types.size) (hv : s.vars = [])
    (hW : DataW.Whole enc P f.params.toList s.vars apart W args.toList ds gs before)
    (hfn : s.fn H (ds ++ gs) = { results := [.lit (.bool true)], args := ds, vars := [] })
    (hres : f.resultTypes = #[tb]) (hu : P.underlying tb = some .bool) (hb : Below W.heap.size W W') :
    s.post enc P f apart fresh handsOn again W args (.bool true) W' := by
  have hlt : ∀ p ∈ before, p.block < W.heap.size := fun p hp => hW.lt p hp
  have hW0 := hW
  obtain ⟨p, q, hA, hV, rfl, hz, hn⟩ := hW
  rw [hv] at hV
  obtain ⟨rfl, rfl⟩ := trodVars_none hV
  simp only [List.append_nil] at *
  have hold : ∀ x ∈ p, (fun b => decide (b < W.heap.size)) x.block = true := fun x hx => by simpa using hlt x hx
  have hR : ∀ (b : Nat) (sp : Nat → Bool) (hd : Bool), DataW.TrodAll enc P W' b sp hd f.resultTypes.toList ((Value.bool true).resultList f.resultTypes.size) [.lit (.bool true)] [] := fun b sp hd => by
    rw [hres]; exact trodAll_cons_mk (shut_bool hu _) trodAll_mk0
  refine ⟨ds, [], p, [], p, [], by simpa using hW0, ?_, ?_, ?_, World.keptBut_mono (fun x hx => ⟨hx, Or.inr (Or.inl hx)⟩) (hb.frame (· ∈ p)), fun _ => ?_⟩
  · rw [List.append_nil, hfn]; exact hR _ _ _
  · rw [List.append_nil, hfn]; exact all_below hl hb _ hts hA hlt hold
  · rw [List.append_nil, hfn, hv]; rfl
  · refine ⟨ok_one hres rfl (okWide_bool_mk hu _), [.lit (.bool true)] ++ ds, [], p, ⟨p, [], ?_, ?_, by simp, ?_, hn⟩, fun x hx _ => hx⟩
    · have h1 := hR 0 (fun _ => true) true
      have h2 := all_below hl hb (fun _ => true) hts hA hlt (fun _ _ => rfl)
      rw [hres]
      exact ⟨[], p, shut_bool hu _, h2, rfl⟩
    · rw [hv]; rfl
    · intro b off hp
      rw [hb.frozen (p := ⟨b, off, none⟩) (hlt _ hp)]
      exact hz b off hp
end
end Go.Proofs.YthnbhaffphopoaaGreatDoor
