/- SHA-256 on numbers, spelled for the kernel's own reckoning; it is the hash that the walks speak of. Written by mkrk.py. No program is named. -/
import Derived.Test.YtkchaflijlmpgaaGreatDoorKyM
namespace Go.Proofs.YtkchaflijlmpgaaGreatDoor
open Go.RowKit

/-- A value is reckoned ahead of what is done with it. -/
def fc (x : Nat) (k : Nat → Nat) : Nat := Nat.rec (k (nat_lit 0)) (fun n _ => k (Nat.succ n)) x
theorem fc_eq (x : Nat) (k : Nat → Nat) : fc x k = k x := by cases x <;> rfl
def r3 (x i j k : Nat) : Nat := (fun y => Nat.mod (Nat.xor (Nat.xor (Nat.shiftRight y i) (Nat.shiftRight y j)) (Nat.shiftRight y k)) (nat_lit 4294967296)) (Nat.mul x (nat_lit 4294967297))
def r2 (x i j k : Nat) : Nat := (fun y => Nat.xor (Nat.mod (Nat.xor (Nat.shiftRight y i) (Nat.shiftRight y j)) (nat_lit 4294967296)) (Nat.shiftRight x k)) (Nat.mul x (nat_lit 4294967297))
def rN (k : Nat) (ih : Nat → Nat → Nat → Nat → Nat → Nat → Nat → Nat → Nat → Nat → Nat → Nat → Nat → Nat → Nat → Nat → Nat → Nat → Nat → Nat → Nat → Nat → Nat → Nat → Nat) : Nat → Nat → Nat → Nat → Nat → Nat → Nat → Nat → Nat → Nat → Nat → Nat → Nat → Nat → Nat → Nat → Nat → Nat → Nat → Nat → Nat → Nat → Nat → Nat → Nat := fun w0 w1 w2 w3 w4 w5 w6 w7 w8 w9 w10 w11 w12 w13 w14 w15 a b c d e f g h => fc (Nat.add (Nat.add (Nat.add (Nat.add h (r3 e (nat_lit 6) (nat_lit 11) (nat_lit 25))) (Nat.xor (Nat.land e f) (Nat.land (Nat.xor e (nat_lit 4294967295)) g))) k) w0) fun t => fc (Nat.mod (Nat.add t (Nat.add (r3 a (nat_lit 2) (nat_lit 13) (nat_lit 22)) (Nat.xor (Nat.xor (Nat.land a b) (Nat.land a c)) (Nat.land b c)))) (nat_lit 4294967296)) fun p => fc (Nat.mod (Nat.add d t) (nat_lit 4294967296)) fun q => fc (Nat.mod (Nat.add (Nat.add (Nat.add w0 (r2 w1 (nat_lit 7) (nat_lit 18) (nat_lit 3))) w9) (r2 w14 (nat_lit 17) (nat_lit 19) (nat_lit 10))) (nat_lit 4294967296)) fun v => ih w1 w2 w3 w4 w5 w6 w7 w8 w9 w10 w11 w12 w13 w14 w15 v p a b c q e f g
def gN (E : Nat → Nat → Nat → Nat → Nat → Nat → Nat → Nat → Nat → Nat → Nat → Nat → Nat → Nat → Nat → Nat → Nat → Nat → Nat → Nat → Nat → Nat → Nat → Nat → Nat) : Nat → Nat → Nat → Nat → Nat → Nat → Nat → Nat → Nat → Nat → Nat → Nat → Nat → Nat → Nat → Nat → Nat → Nat → Nat → Nat → Nat → Nat → Nat → Nat → Nat := (rN (nat_lit 1116352408) (rN (nat_lit 1899447441) (rN (nat_lit 3049323471) (rN (nat_lit 3921009573) (rN (nat_lit 961987163) (rN (nat_lit 1508970993) (rN (nat_lit 2453635748) (rN (nat_lit 2870763221) (rN (nat_lit 3624381080) (rN (nat_lit 310598401) (rN (nat_lit 607225278) (rN (nat_lit 1426881987) (rN (nat_lit 1925078388) (rN (nat_lit 2162078206) (rN (nat_lit 2614888103) (rN (nat_lit 3248222580) (rN (nat_lit 3835390401) (rN (nat_lit 4022224774) (rN (nat_lit 264347078) (rN (nat_lit 604807628) (rN (nat_lit 770255983) (rN (nat_lit 1249150122) (rN (nat_lit 1555081692) (rN (nat_lit 1996064986) (rN (nat_lit 2554220882) (rN (nat_lit 2821834349) (rN (nat_lit 2952996808) (rN (nat_lit 3210313671) (rN (nat_lit 3336571891) (rN (nat_lit 3584528711) (rN (nat_lit 113926993) (rN (nat_lit 338241895) (rN (nat_lit 666307205) (rN (nat_lit 773529912) (rN (nat_lit 1294757372) (rN (nat_lit 1396182291) (rN (nat_lit 1695183700) (rN (nat_lit 1986661051) (rN (nat_lit 2177026350) (rN (nat_lit 2456956037) (rN (nat_lit 2730485921) (rN (nat_lit 2820302411) (rN (nat_lit 3259730800) (rN (nat_lit 3345764771) (rN (nat_lit 3516065817) (rN (nat_lit 3600352804) (rN (nat_lit 4094571909) (rN (nat_lit 275423344) (rN (nat_lit 430227734) (rN (nat_lit 506948616) (rN (nat_lit 659060556) (rN (nat_lit 883997877) (rN (nat_lit 958139571) (rN (nat_lit 1322822218) (rN (nat_lit 1537002063) (rN (nat_lit 1747873779) (rN (nat_lit 1955562222) (rN (nat_lit 2024104815) (rN (nat_lit 2227730452) (rN (nat_lit 2361852424) (rN (nat_lit 2428436474) (rN (nat_lit 2756734187) (rN (nat_lit 3204031479) (rN (nat_lit 3329325298) E))))))))))))))))))))))))))))))))))))))))))))))))))))))))))))))))
def eN (H : Nat) : Nat → Nat → Nat → Nat → Nat → Nat → Nat → Nat → Nat → Nat → Nat → Nat → Nat → Nat → Nat → Nat → Nat → Nat → Nat → Nat → Nat → Nat → Nat → Nat → Nat := fun _ _ _ _ _ _ _ _ _ _ _ _ _ _ _ _ a b c d e f g h => (Nat.add (Nat.mul (Nat.add (Nat.mul (Nat.add (Nat.mul (Nat.add (Nat.mul (Nat.add (Nat.mul (Nat.add (Nat.mul (Nat.add (Nat.mul (Nat.mod (Nat.add (Nat.mod (Nat.shiftRight H (nat_lit 224)) (nat_lit 4294967296)) a) (nat_lit 4294967296)) (nat_lit 4294967296)) (Nat.mod (Nat.add (Nat.mod (Nat.shiftRight H (nat_lit 192)) (nat_lit 4294967296)) b) (nat_lit 4294967296))) (nat_lit 4294967296)) (Nat.mod (Nat.add (Nat.mod (Nat.shiftRight H (nat_lit 160)) (nat_lit 4294967296)) c) (nat_lit 4294967296))) (nat_lit 4294967296)) (Nat.mod (Nat.add (Nat.mod (Nat.shiftRight H (nat_lit 128)) (nat_lit 4294967296)) d) (nat_lit 4294967296))) (nat_lit 4294967296)) (Nat.mod (Nat.add (Nat.mod (Nat.shiftRight H (nat_lit 96)) (nat_lit 4294967296)) e) (nat_lit 4294967296))) (nat_lit 4294967296)) (Nat.mod (Nat.add (Nat.mod (Nat.shiftRight H (nat_lit 64)) (nat_lit 4294967296)) f) (nat_lit 4294967296))) (nat_lit 4294967296)) (Nat.mod (Nat.add (Nat.mod (Nat.shiftRight H (nat_lit 32)) (nat_lit 4294967296)) g) (nat_lit 4294967296))) (nat_lit 4294967296)) (Nat.mod (Nat.add (Nat.mod (Nat.shiftRight H (nat_lit 0)) (nat_lit 4294967296)) h) (nat_lit 4294967296)))
def cN (H B : Nat) : Nat := gN (eN H) (Nat.mod (Nat.shiftRight B (nat_lit 480)) (nat_lit 4294967296)) (Nat.mod (Nat.shiftRight B (nat_lit 448)) (nat_lit 4294967296)) (Nat.mod (Nat.shiftRight B (nat_lit 416)) (nat_lit 4294967296)) (Nat.mod (Nat.shiftRight B (nat_lit 384)) (nat_lit 4294967296)) (Nat.mod (Nat.shiftRight B (nat_lit 352)) (nat_lit 4294967296)) (Nat.mod (Nat.shiftRight B (nat_lit 320)) (nat_lit 4294967296)) (Nat.mod (Nat.shiftRight B (nat_lit 288)) (nat_lit 4294967296)) (Nat.mod (Nat.shiftRight B (nat_lit 256)) (nat_lit 4294967296)) (Nat.mod (Nat.shiftRight B (nat_lit 224)) (nat_lit 4294967296)) (Nat.mod (Nat.shiftRight B (nat_lit 192)) (nat_lit 4294967296)) (Nat.mod (Nat.shiftRight B (nat_lit 160)) (nat_lit 4294967296)) (Nat.mod (Nat.shiftRight B (nat_lit 128)) (nat_lit 4294967296)) (Nat.mod (Nat.shiftRight B (nat_lit 96)) (nat_lit 4294967296)) (Nat.mod (Nat.shiftRight B (nat_lit 64)) (nat_lit 4294967296)) (Nat.mod (Nat.shiftRight B (nat_lit 32)) (nat_lit 4294967296)) (Nat.mod (Nat.shiftRight B (nat_lit 0)) (nat_lit 4294967296)) (Nat.mod (Nat.shiftRight H (nat_lit 224)) (nat_lit 4294967296)) (Nat.mod (Nat.shiftRight H (nat_lit 192)) (nat_lit 4294967296)) (Nat.mod (Nat.shiftRight H (nat_lit 160)) (nat_lit 4294967296)) (Nat.mod (Nat.shiftRight H (nat_lit 128)) (nat_lit 4294967296)) (Nat.mod (Nat.shiftRight H (nat_lit 96)) (nat_lit 4294967296)) (Nat.mod (Nat.shiftRight H (nat_lit 64)) (nat_lit 4294967296)) (Nat.mod (Nat.shiftRight H (nat_lit 32)) (nat_lit 4294967296)) (Nat.mod (Nat.shiftRight H (nat_lit 0)) (nat_lit 4294967296))
def stN (P k : Nat) (i : Nat) : Nat := Nat.rec (nat_lit 47962653771679561900652889051773562940742041696833059450490514104358170316057) (fun i ih => fc ih fun H => fc (Nat.mod (Nat.shiftRight P (Nat.mul (nat_lit 512) (Nat.sub (Nat.sub k (nat_lit 1)) i))) (nat_lit 13407807929942597099574024998205846127479365820592393377723561443721764030073546976801874298166903427690031858186486050853753882811946569946433649006084096)) fun B => cN H B) i
/-- The hash of a text of n bytes that read as the number v. -/
def hN (n v : Nat) : Nat := (fun z => (fun k => fc (Nat.add (Nat.mul (Nat.add (Nat.mul v (nat_lit 256)) (nat_lit 128)) (Nat.pow (nat_lit 2) (Nat.mul (nat_lit 8) (Nat.add z (nat_lit 8))))) (Nat.mul (nat_lit 8) n)) fun P => stN P k k) (Nat.div (Nat.add (Nat.add n z) (nat_lit 9)) (nat_lit 64))) (Nat.mod (Nat.sub (nat_lit 119) (Nat.mod n (nat_lit 64))) (nat_lit 64))

/-! ### Words -/
theorem rotN (x : BitVec 32) (n m : Nat) (hm : n + m = 32) : (rotr x n).toNat = x.toNat * 4294967297 / 2 ^ n % 2 ^ 32 := by
  have hx := x.isLt
  have hAB : 2 ^ n * 2 ^ m = 2 ^ 32 := by rw [← Nat.pow_add, hm]
  have hA : 0 < 2 ^ n := Nat.two_pow_pos n
  unfold rotr
  rw [show 32 - n = m by omega, BitVec.toNat_or, BitVec.toNat_shiftLeft, BitVec.toNat_ushiftRight, Nat.shiftLeft_eq, Nat.shiftRight_eq_div_pow]
  obtain ⟨a, ha⟩ : ∃ a, x.toNat = a := ⟨_, rfl⟩
  rw [ha] at hx ⊢
  have e1 : a * 2 ^ m % 2 ^ 32 = (a % 2 ^ n) * 2 ^ m := by rw [← hAB, Nat.mul_mod_mul_right]
  have e2 : a / 2 ^ n < 2 ^ m := Nat.div_lt_of_lt_mul (by rw [hAB]; exact hx)
  have e3 : (a % 2 ^ n) * 2 ^ m ||| a / 2 ^ n = (a % 2 ^ n) * 2 ^ m + a / 2 ^ n := by rw [← Nat.shiftLeft_eq, ← Nat.shiftLeft_add_eq_or_of_lt e2]
  have e4 : a * 4294967297 = 2 ^ n * (a * 2 ^ m) + a := by
    rw [show 2 ^ n * (a * 2 ^ m) = a * (2 ^ n * 2 ^ m) by ac_rfl, hAB]; omega
  have e5 : (a % 2 ^ n + 1) * 2 ^ m ≤ 2 ^ n * 2 ^ m := Nat.mul_le_mul_right _ (Nat.mod_lt _ hA)
  rw [Nat.add_mul, hAB, Nat.one_mul] at e5
  have e7 : a / 2 ^ n < 2 ^ 32 := Nat.lt_of_le_of_lt (Nat.div_le_self _ _) hx
  have e6 : (a * 2 ^ m + a / 2 ^ n) % 2 ^ 32 = (a % 2 ^ n) * 2 ^ m + a / 2 ^ n := by
    rw [Nat.add_mod, e1, Nat.mod_eq_of_lt e7, Nat.mod_eq_of_lt (by omega)]
  rw [e1, e3, e4, Nat.mul_add_div hA, e6]
theorem r3_eq (x : BitVec 32) (i j k i' j' k' : Nat) (hi : i + i' = 32) (hj : j + j' = 32) (hk : k + k' = 32) : r3 x.toNat i j k = (rotr x i ^^^ rotr x j ^^^ rotr x k).toNat := by
  show ((x.toNat * 4294967297) >>> i ^^^ (x.toNat * 4294967297) >>> j ^^^ (x.toNat * 4294967297) >>> k) % 2 ^ 32 = _
  rw [BitVec.toNat_xor, BitVec.toNat_xor, rotN x i i' hi, rotN x j j' hj, rotN x k k' hk, Nat.shiftRight_eq_div_pow, Nat.shiftRight_eq_div_pow, Nat.shiftRight_eq_div_pow, Nat.xor_mod_two_pow, Nat.xor_mod_two_pow]
theorem r2_eq (x : BitVec 32) (i j k i' j' : Nat) (hi : i + i' = 32) (hj : j + j' = 32) : r2 x.toNat i j k = (rotr x i ^^^ rotr x j ^^^ (x >>> k)).toNat := by
  show ((x.toNat * 4294967297) >>> i ^^^ (x.toNat * 4294967297) >>> j) % 2 ^ 32 ^^^ x.toNat >>> k = _
  rw [BitVec.toNat_xor, BitVec.toNat_xor, rotN x i i' hi, rotN x j j' hj, BitVec.toNat_ushiftRight, Nat.shiftRight_eq_div_pow, Nat.shiftRight_eq_div_pow, Nat.xor_mod_two_pow]
theorem xor_ones (x : BitVec 32) : Nat.xor x.toNat (nat_lit 4294967295) = (~~~ x).toNat := by
  rw [← BitVec.xor_allOnes, BitVec.toNat_xor]; rfl
theorem tn_add (x y : BitVec 32) : (x + y).toNat = (x.toNat + y.toNat) % 4294967296 := BitVec.toNat_add x y
/-! ### A round -/
def nextW (w : Nat → BitVec 32) : BitVec 32 := w 0 + s0 (w 1) + w 9 + s1 (w 14)
theorem nextW_nat (w : Nat → BitVec 32) : Nat.mod (Nat.add (Nat.add (Nat.add (w 0).toNat (r2 (w 1).toNat (nat_lit 7) (nat_lit 18) (nat_lit 3))) (w 9).toNat) (r2 (w 14).toNat (nat_lit 17) (nat_lit 19) (nat_lit 10))) (nat_lit 4294967296) = (nextW w).toNat := by
  have h1 : r2 (w 1).toNat (nat_lit 7) (nat_lit 18) (nat_lit 3) = (s0 (w 1)).toNat := r2_eq (w 1) 7 18 3 25 14 rfl rfl
  have h2 : r2 (w 14).toNat (nat_lit 17) (nat_lit 19) (nat_lit 10) = (s1 (w 14)).toNat := r2_eq (w 14) 17 19 10 15 13 rfl rfl
  rw [h1, h2, nextW]
  show ((w 0).toNat + (s0 (w 1)).toNat + (w 9).toNat + (s1 (w 14)).toNat) % 4294967296 = _
  simp only [tn_add]
  omega
def tNat (k w : BitVec 32) (s : S8) : Nat := s.h.toNat + (S1 s.e).toNat + ((s.e &&& s.f) ^^^ (~~~ s.e &&& s.g)).toNat + k.toNat + w.toNat
theorem tNat_eq (k w : BitVec 32) (s : S8) : Nat.add (Nat.add (Nat.add (Nat.add s.h.toNat (r3 s.e.toNat (nat_lit 6) (nat_lit 11) (nat_lit 25))) (Nat.xor (Nat.land s.e.toNat s.f.toNat) (Nat.land (Nat.xor s.e.toNat (nat_lit 4294967295)) s.g.toNat))) k.toNat) w.toNat = tNat k w s := by
  have h1 : r3 s.e.toNat (nat_lit 6) (nat_lit 11) (nat_lit 25) = (S1 s.e).toNat := r3_eq s.e 6 11 25 26 21 7 rfl rfl rfl
  rw [h1, xor_ones, tNat, BitVec.toNat_xor, BitVec.toNat_and, BitVec.toNat_and]
  rfl
theorem rndA_nat (k w : BitVec 32) (s : S8) : Nat.mod (Nat.add (tNat k w s) (Nat.add (r3 s.a.toNat (nat_lit 2) (nat_lit 13) (nat_lit 22)) (Nat.xor (Nat.xor (Nat.land s.a.toNat s.b.toNat) (Nat.land s.a.toNat s.c.toNat)) (Nat.land s.b.toNat s.c.toNat)))) (nat_lit 4294967296) = (rnd k w s).a.toNat := by
  have h1 : r3 s.a.toNat (nat_lit 2) (nat_lit 13) (nat_lit 22) = (S0 s.a).toNat := r3_eq s.a 2 13 22 30 19 10 rfl rfl rfl
  have h2 : Nat.xor (Nat.xor (Nat.land s.a.toNat s.b.toNat) (Nat.land s.a.toNat s.c.toNat)) (Nat.land s.b.toNat s.c.toNat) = ((s.a &&& s.b) ^^^ (s.a &&& s.c) ^^^ (s.b &&& s.c)).toNat := by
    rw [BitVec.toNat_xor, BitVec.toNat_xor, BitVec.toNat_and, BitVec.toNat_and, BitVec.toNat_and]; rfl
  rw [h1, h2]
  show (tNat k w s + ((S0 s.a).toNat + ((s.a &&& s.b) ^^^ (s.a &&& s.c) ^^^ (s.b &&& s.c)).toNat)) % 4294967296 = _
  simp only [rnd, tNat, tn_add]
  omega
theorem rndE_nat (k w : BitVec 32) (s : S8) : Nat.mod (Nat.add s.d.toNat (tNat k w s)) (nat_lit 4294967296) = (rnd k w s).e.toNat := by
  show (s.d.toNat + tNat k w s) % 4294967296 = _
  simp only [rnd, tNat, tn_add]
  omega
abbrev Big := Nat → Nat → Nat → Nat → Nat → Nat → Nat → Nat → Nat → Nat → Nat → Nat → Nat → Nat → Nat → Nat → Nat → Nat → Nat → Nat → Nat → Nat → Nat → Nat → Nat
/-- A function of the sixteen words and the eight. -/
def ap (F : Big) (w : Nat → BitVec 32) (s : S8) : Nat := F (w 0).toNat (w 1).toNat (w 2).toNat (w 3).toNat (w 4).toNat (w 5).toNat (w 6).toNat (w 7).toNat (w 8).toNat (w 9).toNat (w 10).toNat (w 11).toNat (w 12).toNat (w 13).toNat (w 14).toNat (w 15).toNat
  s.a.toNat s.b.toNat s.c.toNat s.d.toNat s.e.toNat s.f.toNat s.g.toNat s.h.toNat
theorem rN_eq (k : BitVec 32) (F : Big) (w : Nat → BitVec 32) (s : S8) (h : w 16 = nextW w) : ap (rN k.toNat F) w s = ap F (fun i => w (i + 1)) (rnd k (w 0) s) := by
  unfold ap rN
  rw [fc_eq, fc_eq, fc_eq, fc_eq, tNat_eq, rndA_nat, rndE_nat, nextW_nat, ← h]
  rfl
def fwd : List (BitVec 32) → (Nat → BitVec 32) → S8 → S8
  | [], _, s => s
  | k :: ks, w, s => fwd ks (fun i => w (i + 1)) (rnd k (w 0) s)
def foldN (ks : List (BitVec 32)) (E : Big) : Big := ks.foldr (fun k ih => rN k.toNat ih) E
theorem foldN_eq (E : Big) : ∀ (ks : List (BitVec 32)) (w : Nat → BitVec 32) (s : S8), (∀ i, w (i + 16) = nextW fun j => w (i + j)) → ap (foldN ks E) w s = ap E (fun i => w (i + ks.length)) (fwd ks w s)
  | [], _, _, _ => rfl
  | k :: ks, w, s, h => by
    have h0 : w 16 = nextW w := by have := h 0; simpa using this
    show ap (rN k.toNat (foldN ks E)) w s = _
    rw [rN_eq k _ w s h0, foldN_eq E ks (fun i => w (i + 1)) (rnd k (w 0) s) fun i => by
      have := h (i + 1)
      rw [show i + 1 + 16 = i + 16 + 1 by omega] at this
      rw [this]
      congr 1
      funext j
      rw [show i + 1 + j = i + j + 1 by omega]]
    rfl
set_option maxRecDepth 100000 in
theorem gN_fold (E : Big) : gN E = foldN k64 E := by kernel_rfl
theorem fwd_snoc (k : BitVec 32) : ∀ (ks : List (BitVec 32)) (w : Nat → BitVec 32) (s : S8), fwd (ks ++ [k]) w s = rnd k (w ks.length) (fwd ks w s)
  | [], _, _ => rfl
  | _ :: ks, w, _ => by
    rw [List.cons_append, fwd, fwd_snoc k ks, fwd]
    rfl
theorem fwd_rounds (W : List (BitVec 32)) (w : Nat → BitVec 32) (s : S8) (hw : ∀ i, i < 64 → W.getD i 0 = w i) : ∀ t, t ≤ 64 → fwd (k64.take t) w s = rounds W s t
  | 0, _ => rfl
  | t + 1, h => by
    have hl : t < k64.length := by show t < 64; omega
    rw [List.take_succ_eq_append_getElem hl, fwd_snoc, fwd_rounds W w s hw t (by omega), rounds, hw t (by omega), List.length_take, Nat.min_eq_left (by omega)]
    congr 1
    simp [List.getD, hl]
/-! ### The schedule -/
def wd (l : List UInt8) (t : Nat) : BitVec 32 := (schedTo l (t + 1)).getD t 0
theorem sched_pre (l : List UInt8) (t : Nat) : ∀ n, t < n → (schedTo l n).getD t 0 = wd l t
  | 0, h => by omega
  | n + 1, h => by
    rcases Nat.lt_or_ge t n with h1 | h1
    · rw [← sched_pre l t n h1, schedTo, List.getD_eq_getElem?_getD, List.getElem?_append_left (by rw [schedTo_length]; exact h1), ← List.getD_eq_getElem?_getD]
    · obtain rfl : t = n := by omega
      rfl
theorem wd_low (l : List UInt8) (t : Nat) (h : t < 16) : wd l t = wordAt l t := by
  rw [wd, sched_low l t h]
  simp [List.getD, schedTo_length]
theorem wd_high (l : List UInt8) (i : Nat) : wd l (i + 16) = nextW fun j => wd l (i + j) := by
  rw [wd, sched_high l i]
  have e : ∀ j, j < 16 → (schedTo l (i + 16)).getD (i + j) 0 = wd l (i + j) := fun j hj => sched_pre l (i + j) (i + 16) (by omega)
  have e0 : (schedTo l (i + 16)).getD i 0 = wd l i := e 0 (by omega)
  have e1 := e 1 (by omega); have e9 := e 9 (by omega); have e14 := e 14 (by omega)
  rw [e0, e1, e9, e14]
  simp only [List.getD_eq_getElem?_getD]
  rw [List.getElem?_append_right (by rw [schedTo_length]; exact Nat.le_refl _), schedTo_length, Nat.sub_self]
  rfl
/-! ### Texts as numbers -/
def bn (l : List UInt8) : Nat := l.foldl (fun a x => a * 256 + x.toNat) 0
theorem bn_snoc (l : List UInt8) (x : UInt8) : bn (l ++ [x]) = bn l * 256 + x.toNat := by rw [bn, List.foldl_append]; rfl
theorem bn_append (l : List UInt8) : ∀ m : List UInt8, bn (l ++ m) = bn l * 256 ^ m.length + bn m := by
  intro m
  obtain ⟨r, rfl⟩ : ∃ r : List UInt8, m = r.reverse := ⟨m.reverse, by simp⟩
  induction r with
  | nil => simp [bn]
  | cons x r ih =>
    rw [List.reverse_cons, ← List.append_assoc, bn_snoc, ih, bn_snoc, List.length_append, List.length_singleton, Nat.pow_succ, Nat.add_mul, Nat.add_assoc, Nat.mul_assoc]
theorem bn_lt : ∀ l : List UInt8, bn l < 256 ^ l.length := by
  intro l
  obtain ⟨r, rfl⟩ : ∃ r : List UInt8, l = r.reverse := ⟨l.reverse, by simp⟩
  induction r with
  | nil => simp [bn]
  | cons x r ih =>
    have := x.toNat_lt
    rw [List.reverse_cons, bn_snoc, List.length_append, List.length_singleton, Nat.pow_succ]
    omega
theorem bn_inj : ∀ l m : List UInt8, l.length = m.length → bn l = bn m → l = m := by
  intro l m
  obtain ⟨r, rfl⟩ : ∃ r : List UInt8, l = r.reverse := ⟨l.reverse, by simp⟩
  obtain ⟨q, rfl⟩ : ∃ r : List UInt8, m = r.reverse := ⟨m.reverse, by simp⟩
  rw [List.length_reverse, List.length_reverse]
  intro hl hb
  induction r generalizing q with
  | nil => obtain rfl : q = [] := List.length_eq_zero_iff.1 hl.symm; rfl
  | cons x r ih =>
    cases q with
    | nil => cases hl
    | cons y q =>
      rw [List.reverse_cons, List.reverse_cons, bn_snoc, bn_snoc] at hb
      have h1 := x.toNat_lt
      have h2 := y.toNat_lt
      obtain rfl : x = y := UInt8.toNat.inj (by omega)
      rw [List.reverse_cons, List.reverse_cons, ih q (by simpa using hl) (by omega)]
theorem bn4 (a b c d : UInt8) : bn [a, b, c, d] = ((a.toNat * 256 + b.toNat) * 256 + c.toNat) * 256 + d.toNat := by simp [bn]
theorem bn_mid (p q r : List UInt8) : bn (p ++ q ++ r) / 256 ^ r.length % 256 ^ q.length = bn q := by
  rw [bn_append, Nat.mul_comm, Nat.mul_add_div (Nat.pow_pos (by decide)), Nat.div_eq_of_lt (bn_lt r), Nat.add_zero, bn_append, Nat.mul_comm, Nat.mul_add_mod, Nat.mod_eq_of_lt (bn_lt q)]
theorem byteAt_nat (l : List UInt8) (i : Nat) : (byteAt l i).toNat = (l.getD i 0).toNat := by
  rw [byteAt, BitVec.toNat_setWidth, UInt8.toNat_toBitVec]
  have := (l.getD i 0).toNat_lt
  exact Nat.mod_eq_of_lt (by omega)
theorem wordAt_nat (l : List UInt8) (t : Nat) : (wordAt l t).toNat = bn [l.getD (4 * t) 0, l.getD (4 * t + 1) 0, l.getD (4 * t + 2) 0, l.getD (4 * t + 3) 0] := by
  rw [bn4, wordAt]
  have ha := (l.getD (4 * t) 0).toNat_lt
  have hb := (l.getD (4 * t + 1) 0).toNat_lt
  have hc := (l.getD (4 * t + 2) 0).toNat_lt
  have hd := (l.getD (4 * t + 3) 0).toNat_lt
  simp only [BitVec.toNat_or, BitVec.toNat_shiftLeft, byteAt_nat]
  generalize (l.getD (4 * t) 0).toNat = a at *
  generalize (l.getD (4 * t + 1) 0).toNat = b at *
  generalize (l.getD (4 * t + 2) 0).toNat = c at *
  generalize (l.getD (4 * t + 3) 0).toNat = d at *
  rw [Nat.mod_eq_of_lt (by rw [Nat.shiftLeft_eq]; omega), Nat.mod_eq_of_lt (by rw [Nat.shiftLeft_eq]; omega), Nat.mod_eq_of_lt (by rw [Nat.shiftLeft_eq]; omega)]
  have e1 : a <<< 24 ||| b <<< 16 = (a * 256 + b) <<< 16 := by
    rw [← Nat.shiftLeft_add_eq_or_of_lt (by rw [Nat.shiftLeft_eq]; omega), Nat.shiftLeft_eq, Nat.shiftLeft_eq, Nat.shiftLeft_eq]; omega
  have e2 : (a * 256 + b) <<< 16 ||| c <<< 8 = ((a * 256 + b) * 256 + c) <<< 8 := by
    rw [← Nat.shiftLeft_add_eq_or_of_lt (by rw [Nat.shiftLeft_eq]; omega), Nat.shiftLeft_eq, Nat.shiftLeft_eq, Nat.shiftLeft_eq]; omega
  have e3 : ((a * 256 + b) * 256 + c) <<< 8 ||| d = (((a * 256 + b) * 256 + c) * 256 + d) := by
    rw [← Nat.shiftLeft_add_eq_or_of_lt (by omega), Nat.shiftLeft_eq]
  rw [e1, e2, e3]
theorem split3 (l : List UInt8) (i n : Nat) : l = l.take i ++ (l.drop i).take n ++ l.drop (i + n) := by
  rw [List.append_assoc, ← List.drop_drop, List.take_append_drop, List.take_append_drop]
theorem four_of (l : List UInt8) (t : Nat) (h : 4 * t + 4 ≤ l.length) : (l.drop (4 * t)).take 4 = [l.getD (4 * t) 0, l.getD (4 * t + 1) 0, l.getD (4 * t + 2) 0, l.getD (4 * t + 3) 0] := by
  apply List.ext_getElem
  · simp only [List.length_take, List.length_drop, List.length_cons, List.length_nil]; omega
  · intro i h1 h2
    have : i < 4 := by simpa using h2
    simp only [List.getElem_take, List.getElem_drop]
    obtain rfl | rfl | rfl | rfl : i = 0 ∨ i = 1 ∨ i = 2 ∨ i = 3 := by omega
    all_goals simp [List.getD, show 4 * t < l.length by omega, show 4 * t + 1 < l.length by omega, show 4 * t + 2 < l.length by omega, show 4 * t + 3 < l.length by omega]
theorem pow256 (n : Nat) : 256 ^ n = 2 ^ (8 * n) := by rw [Nat.pow_mul]
theorem word_bn (l : List UInt8) (t : Nat) (hl : l.length = 64) (ht : t < 16) : bn l >>> (32 * (15 - t)) % 4294967296 = (wd l t).toNat := by
  have h := bn_mid (l.take (4 * t)) ((l.drop (4 * t)).take 4) (l.drop (4 * t + 4))
  have e : ∀ a b c d : UInt8, 256 ^ ([a, b, c, d] : List UInt8).length = 4294967296 := fun _ _ _ _ => by show 256 ^ 4 = 4294967296; decide
  rw [← split3 l (4 * t) 4, four_of l t (by omega), ← wordAt_nat, e, List.length_drop, hl, pow256, show 8 * (64 - (4 * t + 4)) = 32 * (15 - t) by omega] at h
  rw [Nat.shiftRight_eq_div_pow, wd_low l t ht]
  exact h
/-! ### Eight words as one number -/
def pkS (s : S8) : Nat := ((((((s.a.toNat * 4294967296 + s.b.toNat) * 4294967296 + s.c.toNat) * 4294967296 + s.d.toNat) * 4294967296 + s.e.toNat) * 4294967296 + s.f.toNat) * 4294967296 + s.g.toNat) * 4294967296 + s.h.toNat
theorem sh_lo (x y : Nat) (h : y < 4294967296) : (x * 4294967296 + y) >>> 0 % 4294967296 = y := by rw [Nat.shiftRight_zero]; omega
theorem sh_up (x y k : Nat) (h : y < 4294967296) : (x * 4294967296 + y) >>> (32 + k) = x >>> k := by
  rw [Nat.shiftRight_add, Nat.shiftRight_eq_div_pow (m := _) (n := 32), show 2 ^ 32 = 4294967296 from rfl, show (x * 4294967296 + y) / 4294967296 = x by omega]
theorem pk_out (a b c d e f g h : Nat) (hb : b < 4294967296) (hc : c < 4294967296) (hd : d < 4294967296) (he : e < 4294967296) (hf : f < 4294967296) (hg : g < 4294967296) (hh : h < 4294967296) (ha : a < 4294967296) (H : Nat)
    (hH : H = ((((((a * 4294967296 + b) * 4294967296 + c) * 4294967296 + d) * 4294967296 + e) * 4294967296 + f) * 4294967296 + g) * 4294967296 + h) :
    H >>> 224 % 4294967296 = a ∧ H >>> 192 % 4294967296 = b ∧ H >>> 160 % 4294967296 = c ∧ H >>> 128 % 4294967296 = d ∧ H >>> 96 % 4294967296 = e ∧ H >>> 64 % 4294967296 = f ∧ H >>> 32 % 4294967296 = g ∧ H >>> 0 % 4294967296 = h := by
  subst hH
  refine ⟨?_, ?_, ?_, ?_, ?_, ?_, ?_, sh_lo _ _ hh⟩
  · rw [show 224 = 32 + (32 + (32 + (32 + (32 + (32 + (32 + 0)))))) from rfl, sh_up _ _ _ hh, sh_up _ _ _ hg, sh_up _ _ _ hf, sh_up _ _ _ he, sh_up _ _ _ hd, sh_up _ _ _ hc, sh_up _ _ _ hb, Nat.shiftRight_zero, Nat.mod_eq_of_lt ha]
  · rw [show 192 = 32 + (32 + (32 + (32 + (32 + (32 + 0))))) from rfl, sh_up _ _ _ hh, sh_up _ _ _ hg, sh_up _ _ _ hf, sh_up _ _ _ he, sh_up _ _ _ hd, sh_up _ _ _ hc, sh_lo _ _ hb]
  · rw [show 160 = 32 + (32 + (32 + (32 + (32 + 0)))) from rfl, sh_up _ _ _ hh, sh_up _ _ _ hg, sh_up _ _ _ hf, sh_up _ _ _ he, sh_up _ _ _ hd, sh_lo _ _ hc]
  · rw [show 128 = 32 + (32 + (32 + (32 + 0))) from rfl, sh_up _ _ _ hh, sh_up _ _ _ hg, sh_up _ _ _ hf, sh_up _ _ _ he, sh_lo _ _ hd]
  · rw [show 96 = 32 + (32 + (32 + 0)) from rfl, sh_up _ _ _ hh, sh_up _ _ _ hg, sh_up _ _ _ hf, sh_lo _ _ he]
  · rw [show 64 = 32 + (32 + 0) from rfl, sh_up _ _ _ hh, sh_up _ _ _ hg, sh_lo _ _ hf]
  · rw [show 32 = 32 + 0 from rfl, sh_up _ _ _ hh, sh_lo _ _ hg]
theorem pkS_out (s : S8) : pkS s >>> 224 % 4294967296 = s.a.toNat ∧ pkS s >>> 192 % 4294967296 = s.b.toNat ∧ pkS s >>> 160 % 4294967296 = s.c.toNat ∧ pkS s >>> 128 % 4294967296 = s.d.toNat ∧ pkS s >>> 96 % 4294967296 = s.e.toNat ∧ pkS s >>> 64 % 4294967296 = s.f.toNat ∧ pkS s >>> 32 % 4294967296 = s.g.toNat ∧ pkS s >>> 0 % 4294967296 = s.h.toNat :=
  pk_out _ _ _ _ _ _ _ _ s.b.isLt s.c.isLt s.d.isLt s.e.isLt s.f.isLt s.g.isLt s.h.isLt s.a.isLt _ rfl
set_option maxRecDepth 100000 in
theorem eN_eq (s r : S8) (w : Nat → BitVec 32) : ap (eN (pkS s)) w r = pkS ⟨s.a + r.a, s.b + r.b, s.c + r.c, s.d + r.d, s.e + r.e, s.f + r.f, s.g + r.g, s.h + r.h⟩ := by
  obtain ⟨h1, h2, h3, h4, h5, h6, h7, h8⟩ := pkS_out s
  obtain ⟨H, hH⟩ : ∃ H, pkS s = H := ⟨_, rfl⟩
  rw [hH] at h1 h2 h3 h4 h5 h6 h7 h8 ⊢
  unfold pkS
  simp only [tn_add]
  rw [← h1, ← h2, ← h3, ← h4, ← h5, ← h6, ← h7, ← h8]
  rfl
set_option maxRecDepth 100000 in
theorem cN_eq (s : S8) (l : List UInt8) (hl : l.length = 64) : cN (pkS s) (bn l) = pkS (comp l s) := by
  have hw := fun t ht => word_bn l t hl ht
  have e : cN (pkS s) (bn l) = ap (gN (eN (pkS s))) (wd l) s := by
    obtain ⟨h1, h2, h3, h4, h5, h6, h7, h8⟩ := pkS_out s
    unfold ap
    rw [← hw 0 (by omega), ← hw 1 (by omega), ← hw 2 (by omega), ← hw 3 (by omega), ← hw 4 (by omega), ← hw 5 (by omega), ← hw 6 (by omega), ← hw 7 (by omega), ← hw 8 (by omega), ← hw 9 (by omega), ← hw 10 (by omega), ← hw 11 (by omega), ← hw 12 (by omega), ← hw 13 (by omega), ← hw 14 (by omega), ← hw 15 (by omega)]
    obtain ⟨H, hH⟩ : ∃ H, pkS s = H := ⟨_, rfl⟩
    rw [hH] at h1 h2 h3 h4 h5 h6 h7 h8 ⊢
    rw [← h1, ← h2, ← h3, ← h4, ← h5, ← h6, ← h7, ← h8]
    rfl
  have hf := fwd_rounds (schedTo l 64) (wd l) s (fun i hi => sched_pre l i 64 hi) 64 (Nat.le_refl _)
  rw [show k64.take 64 = k64 from rfl] at hf
  rw [e, gN_fold, foldN_eq _ k64 (wd l) s (wd_high l), eN_eq, hf]
  rfl
/-! ### Whole texts -/
theorem blk_bn (m : List UInt8) (k i : Nat) (hm : m.length = 64 * k) (hi : i < k) : bn m >>> (512 * (k - 1 - i)) % 256 ^ 64 = bn (blockAt m i) := by
  have h := bn_mid (m.take (64 * i)) ((m.drop (64 * i)).take 64) (m.drop (64 * i + 64))
  have hl : ((m.drop (64 * i)).take 64).length = 64 := by simp; omega
  rw [← split3 m (64 * i) 64, hl, List.length_drop, hm, pow256 (64 * k - (64 * i + 64)), show 8 * (64 * k - (64 * i + 64)) = 512 * (k - 1 - i) by omega] at h
  rw [Nat.shiftRight_eq_div_pow]
  exact h
theorem iv_eq : 47962653771679561900652889051773562940742041696833059450490514104358170316057 = pkS first := by decide +kernel
theorem stN_eq (m : List UInt8) (k : Nat) (hm : m.length = 64 * k) : ∀ i, i ≤ k → stN (bn m) k i = pkS (stateAt m i)
  | 0, _ => iv_eq
  | i + 1, h => by
    have ih := stN_eq m k hm i (by omega)
    show fc (stN (bn m) k i) (fun H => fc (Nat.mod (Nat.shiftRight (bn m) (Nat.mul (nat_lit 512) (Nat.sub (Nat.sub k (nat_lit 1)) i))) (nat_lit 13407807929942597099574024998205846127479365820592393377723561443721764030073546976801874298166903427690031858186486050853753882811946569946433649006084096)) fun B => cN H B) = _
    rw [fc_eq, fc_eq, ih, stateAt, ← cN_eq _ _ (show (blockAt m i).length = 64 by unfold blockAt; simp; omega)]
    congr 1
    exact blk_bn m k i hm (by omega)
theorem bn_be4 (x : BitVec 32) : bn (be4 x) = x.toNat := by
  show bn [UInt8.ofNat (U (x >>> 24) % 256).toNat, UInt8.ofNat (U (x >>> 16) % 256).toNat, UInt8.ofNat (U (x >>> 8) % 256).toNat, UInt8.ofNat (U x % 256).toNat] = _
  rw [bn4]
  simp only [UInt8.toNat_ofNat', U, BitVec.toNat_ushiftRight, Nat.shiftRight_eq_div_pow]
  have := x.isLt
  omega
theorem bn_zeros : ∀ z, bn (List.replicate z 0) = 0
  | 0 => rfl
  | z + 1 => by rw [List.replicate_succ', bn_snoc, bn_zeros z]; rfl
theorem padded_length (m : List UInt8) : (padded m).length = m.length + (119 - m.length % 64) % 64 + 9 := by
  simp [padded, be4_length]; omega
theorem pad_num (b n Z : Nat) (h : n < 1152921504606846976) : ((b * (256 * Z) + (128 * Z + 0)) * 4294967296 + n * 8 / 4294967296 % 4294967296) * 4294967296 + n * 8 % 4294967296 = (b * 256 + 128) * (Z * (4294967296 * 4294967296)) + 8 * n := by
  have e6 : b * (256 * Z) + (128 * Z + 0) = (b * 256 + 128) * Z := by rw [Nat.add_mul, Nat.mul_assoc, Nat.add_zero]
  rw [e6, ← Nat.mul_assoc]
  obtain ⟨X, hX⟩ : ∃ X, (b * 256 + 128) * Z = X := ⟨_, rfl⟩
  rw [hX]
  omega
theorem bn_padded (m : List UInt8) (h : m.length < 1152921504606846976) : bn (padded m) = (bn m * 256 + 128) * 2 ^ (8 * ((119 - m.length % 64) % 64 + 8)) + 8 * m.length := by
  unfold padded
  obtain ⟨z, hz⟩ : ∃ z, (119 - m.length % 64) % 64 = z := ⟨_, rfl⟩
  have e3 : 2 ^ (8 * (z + 8)) = 256 ^ z * (4294967296 * 4294967296) := by
    rw [pow256, show 8 * (z + 8) = 8 * z + 64 by omega, Nat.pow_add]
  have e7 : bn (128 :: List.replicate z 0) = 128 * 256 ^ z + 0 := by
    rw [show (128 : UInt8) :: List.replicate z 0 = [128] ++ List.replicate z 0 from rfl, bn_append, bn_zeros, List.length_replicate]; rfl
  have e8 : 256 ^ (128 :: List.replicate z (0 : UInt8)).length = 256 * 256 ^ z := by rw [List.length_cons, List.length_replicate, Nat.pow_succ, Nat.mul_comm]
  have e9 : ∀ (p : List UInt8) (x : BitVec 32), bn (p ++ be4 x) = bn p * 4294967296 + x.toNat := fun p x => by rw [bn_append, bn_be4, be4_length]
  rw [hz, e9, e9, bn_append, e7, e8, BitVec.toNat_ofNat, BitVec.toNat_ofNat, e3]
  exact pad_num (bn m) m.length (256 ^ z) h
theorem bn_word (p : List UInt8) (x : BitVec 32) : bn (p ++ be4 x) = bn p * 4294967296 + x.toNat := by rw [bn_append, bn_be4, be4_length]
theorem list4 (s : S8) : bn (s.list.flatMap be4) = pkS s := by
  have e : s.list.flatMap be4 = be4 s.a ++ be4 s.b ++ be4 s.c ++ be4 s.d ++ be4 s.e ++ be4 s.f ++ be4 s.g ++ be4 s.h := by simp [S8.list]
  rw [e, bn_word, bn_word, bn_word, bn_word, bn_word, bn_word, bn_word, bn_be4]
  rfl
/-- The hash, reckoned. -/
theorem bn_hash (m : List UInt8) (h : m.length < 1152921504606846976) : bn (hashL m) = hN m.length (bn m) := by
  obtain ⟨z, hz⟩ : ∃ z, (119 - m.length % 64) % 64 = z := ⟨_, rfl⟩
  have hp := padded_length m
  have hb := bn_padded m h
  rw [hz] at hp hb
  obtain ⟨k, hk⟩ : ∃ k, (padded m).length / 64 = k := ⟨_, rfl⟩
  have h64 : (padded m).length = 64 * k := by omega
  have hk2 : (m.length + z + 9) / 64 = k := by omega
  rw [hashL, list4, hk, ← stN_eq (padded m) k h64 k (Nat.le_refl _), hb]
  unfold hN
  simp only [fc_eq]
  show stN _ k k = stN ((bn m * 256 + 128) * 2 ^ (8 * ((119 - m.length % 64) % 64 + 8)) + 8 * m.length) ((m.length + (119 - m.length % 64) % 64 + 9) / 64) ((m.length + (119 - m.length % 64) % 64 + 9) / 64)
  rw [hz, hk2]
end Go.Proofs.YtkchaflijlmpgaaGreatDoor
