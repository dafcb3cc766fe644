/- The IDs of three keys of the example, reckoned; a signature that isn't for another text. No program is named. -/
import Derived.Test.YtkchaflijlmpgaaGreatDoorRk
namespace Go.Proofs.YtkchaflijlmpgaaGreatDoor
open Go.RowKit

def bnT (x : ByteArray) : Nat := bn x.data.toList
/-- One part more, of len bytes and the number x. -/
def tgN (v len x : Nat) : Nat := Nat.add (Nat.mul (Nat.add (Nat.mul v (nat_lit 4294967296)) len) (Nat.pow (nat_lit 256) len)) x
theorem tg_snoc (k : UInt8) (ps : List ByteArray) (s : ByteArray) (h : s.size < 4294967296) : bn (tagL k (ps ++ [s])) = tgN (bn (tagL k ps)) s.size (bnT s) := by
  have e : tagL k (ps ++ [s]) = tagL k ps ++ be4 (BitVec.ofNat 32 s.size) ++ s.data.toList := by simp [tagL, tagP]
  rw [e, bn_append, bn_append, bn_be4, be4_length, data_len, BitVec.toNat_ofNat, Nat.mod_eq_of_lt (by omega)]
  rfl
theorem tg_len (k : UInt8) (ps : List ByteArray) (s : ByteArray) : (tagL k (ps ++ [s])).length = (tagL k ps).length + (4 + s.size) := by
  have e : tagL k (ps ++ [s]) = tagL k ps ++ (be4 (BitVec.ofNat 32 s.size) ++ s.data.toList) := by simp [tagL, tagP]
  rw [e, List.length_append, List.length_append, be4_length, data_len]
theorem bnT_hash (m : List UInt8) (h : m.length < 1152921504606846976) : bnT (hashOf m) = hN m.length (bn m) := bn_hash m h
theorem bnT_val (k : UInt8) (ps : List ByteArray) (h : (tagL k ps).length < 1152921504606846976) : bnT (val k ps) = Nat.shiftRight (hN (tagL k ps).length (bn (tagL k ps))) 128 := by
  rw [← bn_hash _ h]
  have hl := hashL_length (tagL k ps)
  have e : (val k ps).data.toList = (hashL (tagL k ps)).take 16 := by
    rw [val, ByteArray.data_extract, Array.toList_extract, List.extract_eq_take_drop]; rfl
  have h1 := bn_append ((hashL (tagL k ps)).take 16) ((hashL (tagL k ps)).drop 16)
  rw [List.take_append_drop, List.length_drop, hl] at h1
  have h2 := bn_lt ((hashL (tagL k ps)).drop 16)
  rw [List.length_drop, hl] at h2
  show bn _ = bn _ >>> 128
  rw [e, Nat.shiftRight_eq_div_pow, h1, show (2 : Nat) ^ 128 = 256 ^ (32 - 16) by decide, Nat.mul_comm, Nat.mul_add_div (by decide), Nat.div_eq_of_lt h2, Nat.add_zero]
theorem bnT_one (n : Nat) (h : n < 256) : bnT (by1 n) = n := by
  show bn [UInt8.ofNat n] = n
  simp [bn]; omega
theorem bnT_two (n : Nat) (h : n < 65536) : bnT (by2 n) = n := by
  show bn [UInt8.ofNat (n / 256), UInt8.ofNat n] = n
  simp [bn]; omega
theorem tag0 (k : UInt8) : bn (tagL k []) = k.toNat := by simp [tagL, bn]
def lkN (n i k x : Nat) : Nat := Nat.shiftRight (hN (nat_lit 37) (tgN (tgN (tgN (tgN (nat_lit 33) (nat_lit 2) n) (nat_lit 1) i) (nat_lit 1) k) (nat_lit 16) x)) (nat_lit 128)
theorem bnT_link (n i k : Nat) (x : ByteArray) (hn : n < 65536) (hi : i < 256) (hk : k < 256) (hx : x.size = 16) : bnT (linkV n i k x) = lkN n i k (bnT x) := by
  have e : [by2 n, by1 i, by1 k, x] = [] ++ [by2 n] ++ [by1 i] ++ [by1 k] ++ [x] := rfl
  have l2 : (by2 n).size = 2 := rfl
  have l1 : ∀ j, (by1 j).size = 1 := fun _ => rfl
  have hl : (tagL 33 [by2 n, by1 i, by1 k, x]).length = 37 := by rw [e, tg_len, tg_len, tg_len, tg_len, l2, l1, l1, hx]; rfl
  rw [linkV, bnT_val _ _ (by rw [hl]; decide), hl, e, tg_snoc _ _ _ (by rw [hx]; decide), tg_snoc _ _ _ (by rw [l1]; decide), tg_snoc _ _ _ (by rw [l1]; decide), tg_snoc _ _ _ (by rw [l2]; decide), tag0, hx, l1, l1, l2, bnT_one i hi, bnT_one k hk, bnT_two n hn]
  rfl
def chN (n i a c x : Nat) : Nat := Nat.rec x (fun c ih => fc ih fun y => lkN n i (Nat.add a c) y) c
theorem bnT_links (n i a : Nat) (x : ByteArray) (hn : n < 65536) (hi : i < 256) (hx : x.size = 16) : ∀ c, a + c ≤ 256 → bnT (linksV n i a c x) = chN n i a c (bnT x)
  | 0, _ => rfl
  | c + 1, h => by
    show _ = fc (chN n i a c (bnT x)) fun y => lkN n i (Nat.add a c) y
    rw [fc_eq, ← bnT_links n i a x hn hi hx c (by omega), linksV, bnT_link n i (a + c) _ hn hi (by omega) (linksV_size n i a x hx c)]
    rfl
def scN (sl s n i : Nat) : Nat := Nat.shiftRight (hN (Nat.add (nat_lit 16) sl) (tgN (tgN (tgN (nat_lit 32) sl s) (nat_lit 2) n) (nat_lit 1) i)) (nat_lit 128)
theorem bnT_sec (s : ByteArray) (n i : Nat) (hn : n < 65536) (hi : i < 256) (hs : s.size < 4294967296) : bnT (secV s n i) = scN s.size (bnT s) n i := by
  have e : [s, by2 n, by1 i] = [] ++ [s] ++ [by2 n] ++ [by1 i] := rfl
  have l2 : (by2 n).size = 2 := rfl
  have l1 : ∀ j, (by1 j).size = 1 := fun _ => rfl
  have hl : (tagL 32 [s, by2 n, by1 i]).length = 16 + s.size := by
    rw [e, tg_len, tg_len, tg_len, l2, l1, show (tagL 32 []).length = 1 from rfl]; omega
  rw [secV, bnT_val _ _ (by rw [hl]; omega), hl, e, tg_snoc _ _ _ (by rw [l1]; decide), tg_snoc _ _ _ (by rw [l2]; decide), tg_snoc _ _ _ hs, tag0, l1, l2, bnT_one i hi, bnT_two n hn]
  rfl
def acN (f : Nat → Nat) (k : Nat) : Nat := Nat.rec (nat_lit 0) (fun k ih => fc ih fun a => fc (f k) fun b => Nat.add (Nat.mul a (nat_lit 340282366920938463463374607431768211456)) b) k
theorem bn_acc (g : Nat → ByteArray) (f : Nat → Nat) (hg : ∀ i, (g i).size = 16) : ∀ k, (∀ i, i < k → bnT (g i) = f i) → bn (accL g k) = acN f k
  | 0, _ => rfl
  | k + 1, h => by
    show _ = fc (acN f k) fun a => fc (f k) fun b => Nat.add (Nat.mul a (nat_lit 340282366920938463463374607431768211456)) b
    rw [fc_eq, fc_eq, ← bn_acc g f hg k (fun i hi => h i (by omega)), ← h k (by omega), accL, bn_append, data_len, hg]
    rfl
/-- What comes out of eighteen values. -/
def pbN (f : Nat → Nat) : Nat := hN (nat_lit 293) (tgN (nat_lit 35) (nat_lit 288) (acN f (nat_lit 18)))
theorem bnT_pub (g : Nat → ByteArray) (f : Nat → Nat) (hg : ∀ i, (g i).size = 16) (h : ∀ i, i < 18 → bnT (g i) = f i) : bnT (tagS 35 [accT g 18]) = pbN f := by
  have hs : (accT g 18).size = 288 := accT_size g hg 18
  have e : [accT g 18] = [] ++ [accT g 18] := rfl
  have hl : (tagL 35 [accT g 18]).length = 293 := by rw [e, tg_len, hs]; rfl
  rw [tagS, bnT_hash _ (by rw [hl]; decide), hl, e, tg_snoc _ _ _ (by rw [hs]; decide), hs, tag0, show bnT (accT g 18) = bn (accL g 18) from rfl, bn_acc g f hg 18 h]
  rfl
def puN (sl s n : Nat) : Nat := pbN fun i => chN n i (nat_lit 0) (nat_lit 15) (scN sl s n i)
theorem bnT_pubT (s : ByteArray) (n : Nat) (hn : n < 65536) (hs : s.size < 4294967296) : bnT (pubT s n) = puN s.size (bnT s) n :=
  bnT_pub (endV s n) _ (endV_size s n) fun i hi => by
    rw [endV, bnT_links n i 0 _ hn (by omega) (secV_size _ _ _) 15 (by omega), bnT_sec s n i hn (by omega) hs]
def ndN (a b : Nat) : Nat := hN (nat_lit 73) (tgN (tgN (nat_lit 37) (nat_lit 32) a) (nat_lit 32) b)
theorem bnT_node (a b : ByteArray) (ha : a.size = 32) (hb : b.size = 32) : bnT (nodeV a b) = ndN (bnT a) (bnT b) := by
  have e : [a, b] = [] ++ [a] ++ [b] := rfl
  have hl : (tagL 37 [a, b]).length = 73 := by rw [e, tg_len, tg_len, ha, hb]; rfl
  rw [nodeV, tagS, bnT_hash _ (by rw [hl]; decide), hl, e, tg_snoc _ _ _ (by rw [hb]; decide), tg_snoc _ _ _ (by rw [ha]; decide), ha, hb, tag0]
  rfl
def idN (h t : Nat) : Nat := hN (nat_lit 42) (tgN (tgN (nat_lit 38) (nat_lit 1) h) (nat_lit 32) t)
theorem bnT_id (h : Nat) (t : ByteArray) (hh : h < 256) (ht : t.size = 32) : bnT (idV h t) = idN h (bnT t) := by
  have e : [by1 h, t] = [] ++ [by1 h] ++ [t] := rfl
  have l1 : ∀ j, (by1 j).size = 1 := fun _ => rfl
  have hl : (tagL 38 [by1 h, t]).length = 42 := by rw [e, tg_len, tg_len, ht, l1]; rfl
  rw [idV, tagS, bnT_hash _ (by rw [hl]; decide), hl, e, tg_snoc _ _ _ (by rw [ht]; decide), tg_snoc _ _ _ (by rw [l1]; decide), ht, l1, tag0, bnT_one h hh]
  rfl
/-- The ID of a key of the height 1. -/
def kdN (sl s : Nat) : Nat := idN (nat_lit 1) (ndN (puN sl s (nat_lit 0)) (puN sl s (nat_lit 1)))
theorem bnT_key (s : ByteArray) (hs : s.size < 4294967296) : bnT (keyID s 1) = kdN s.size (bnT s) := by
  show bnT (idV 1 (nodeV (pubT s 0) (pubT s 1))) = _
  rw [bnT_id 1 _ (by decide) (nodeV_size _ _), bnT_node _ _ (pubT_size _ _) (pubT_size _ _), bnT_pubT s 0 (by decide) hs, bnT_pubT s 1 (by decide) hs]
  rfl
/-! ### The example's keys -/
def lt1 (x : UInt8) : ByteArray := { data := #[x] }
theorem kd_a : kdN 1 97 = 14281201545810751530382028697834713106357395480215257179931913842909561890311 := by decide +kernel
theorem kd_b : kdN 1 98 = 9558201183896678181727541882644774655269967087219222437290914311093474131365 := by decide +kernel
theorem kd_c : kdN 1 99 = 74779855740580976595140983161563957399848003048638735006268165070833565103163 := by decide +kernel
theorem id_a : bnT (keyID (lt1 97) 1) = 14281201545810751530382028697834713106357395480215257179931913842909561890311 := (bnT_key (lt1 97) (by decide)).trans kd_a
theorem id_b : bnT (keyID (lt1 98) 1) = 9558201183896678181727541882644774655269967087219222437290914311093474131365 := (bnT_key (lt1 98) (by decide)).trans kd_b
theorem id_c : bnT (keyID (lt1 99) 1) = 74779855740580976595140983161563957399848003048638735006268165070833565103163 := (bnT_key (lt1 99) (by decide)).trans kd_c
theorem id_ab : keyID (lt1 97) 1 ≠ keyID (lt1 98) 1 := fun h => by have := id_a; rw [h, id_b] at this; exact absurd this (by decide)
theorem id_ac : keyID (lt1 97) 1 ≠ keyID (lt1 99) 1 := fun h => by have := id_a; rw [h, id_c] at this; exact absurd this (by decide)
theorem id_bc : keyID (lt1 98) 1 ≠ keyID (lt1 99) 1 := fun h => by have := id_b; rw [h, id_c] at this; exact absurd this (by decide)
/-! ### The digits of two texts -/
theorem hd_num (x : UInt8) : bn (headL (lt1 x)) = hN 6 (tgN 34 1 x.toNat) := by
  have e : [lt1 x] = [] ++ [lt1 x] := rfl
  have hs : (lt1 x).size = 1 := rfl
  have hl : (tagL 34 [lt1 x]).length = 6 := rfl
  have h1 : bnT (lt1 x) = x.toNat := by show bn [x] = _; simp [bn]
  rw [headL, bn_hash _ (by rw [hl]; decide), hl, e, tg_snoc _ _ _ (by rw [hs]; decide), hs, tag0, h1]
  rfl
def hT : List UInt8 := [13, 104, 92, 92, 190, 232, 143, 217, 234, 10, 19, 47, 59, 101, 246, 151, 45, 182, 255, 94, 143, 185, 183, 201, 104, 138, 90, 93, 37, 239, 8, 182]
def hU : List UInt8 := [167, 240, 254, 54, 46, 9, 192, 221, 193, 238, 163, 241, 64, 71, 130, 228, 187, 12, 199, 111, 241, 242, 104, 161, 45, 56, 82, 84, 178, 82, 17, 9]
theorem hd_t : headL (lt1 116) = hT := bn_inj _ _ (hashL_length _) ((hd_num 116).trans (by decide +kernel))
theorem hd_u : headL (lt1 117) = hU := bn_inj _ _ (hashL_length _) ((hd_num 117).trans (by decide +kernel))
def dT : List Nat := [0, 13, 6, 8, 5, 12, 5, 12, 11, 14, 14, 8, 8, 15, 13, 9, 5, 7]
def dU : List Nat := [10, 7, 15, 0, 15, 14, 3, 6, 2, 14, 0, 9, 12, 0, 13, 13, 6, 11]
theorem dg_t : digs hT = dT := by decide +kernel
theorem dg_u : digs hU = dU := by decide +kernel
theorem dT_le : ∀ i, dT.getD i 0 ≤ 15 := fun i => by have := dig_le hT i; rwa [dig, dg_t] at this
theorem dU_le : ∀ i, dU.getD i 0 ≤ 15 := fun i => by have := dig_le hU i; rwa [dig, dg_u] at this
/-- What comes out of the signature of one text for another. -/
def ruN : Nat := pbN fun i => chN (nat_lit 0) i (List.getD dU i (nat_lit 0)) (Nat.sub (nat_lit 15) (List.getD dU i (nat_lit 0))) (chN (nat_lit 0) i (nat_lit 0) (List.getD dT i (nat_lit 0)) (scN (nat_lit 1) (nat_lit 97) (nat_lit 0) i))
theorem bnT_ru : bnT (recT 0 (lt1 117) (sigT (lt1 97) 0 (lt1 116))) = ruN := by
  have e : ∀ i, i < 18 → recV 0 (lt1 117) (sigT (lt1 97) 0 (lt1 116)) i = linksV 0 i (dU.getD i 0) (15 - dU.getD i 0) (linksV 0 i 0 (dT.getD i 0) (secV (lt1 97) 0 i)) := fun i hi => by
    rw [recV, sig_cut _ _ _ i hi, sigV, dig, dig, hd_t, hd_u, dg_t, dg_u]
  rw [recT, accT_congr 18 e]
  exact bnT_pub _ _ (fun i => linksV_size _ _ _ _ (linksV_size _ _ _ _ (secV_size _ _ _) _) _) fun i hi => by
    have h1 := dT_le i
    have h2 := dU_le i
    rw [bnT_links 0 i _ _ (by decide) (by omega) (linksV_size _ _ _ _ (secV_size _ _ _) _) _ (by omega), bnT_links 0 i 0 _ (by decide) (by omega) (secV_size _ _ _) _ (by omega), bnT_sec (lt1 97) 0 i (by decide) (by omega) (by decide)]
    rfl
theorem ru_id : idN 1 (ndN ruN (puN 1 97 1)) = 72596681756600453856047743061033443480040746086091354405448702127667666862939 := by decide +kernel
theorem ru_ne : idV 1 (nodeV (recT 0 (lt1 117) (sigT (lt1 97) 0 (lt1 116))) (pubT (lt1 97) 1)) ≠ keyID (lt1 97) 1 := fun h => by
  have h1 := id_a
  rw [← h, bnT_id 1 _ (by decide) (nodeV_size _ _), bnT_node (recT 0 (lt1 117) (sigT (lt1 97) 0 (lt1 116))) _ (tagS_size _ _) (pubT_size _ _), bnT_ru, bnT_pubT (lt1 97) 1 (by decide) (by decide)] at h1
  exact absurd (ru_id.symm.trans h1) (by decide)
/-- A signature of the example is right for its text alone. -/
theorem ver_u : verE (keyID (lt1 97) 1) (lt1 117) (keyS (lt1 97) 1 0 (lt1 116)) = 9 := by
  rw [verE, if_pos (keyS_ok _ 1 0 _ (by decide) (by decide)), keyS_H _ _ _ _ (by decide), keyS_N _ _ _ _ (by decide), keyS_O, keyS_B]
  have e : upV (recT 0 (lt1 117) (sigT (lt1 97) 0 (lt1 116))) 0 (accT (besV (lt1 97) 0) 1) 1 = nodeV (recT 0 (lt1 117) (sigT (lt1 97) 0 (lt1 116))) (pubT (lt1 97) 1) := by
    rw [upV, upV, accT_cut32 (besV (lt1 97) 0) (besV_size _ _) 0 1 (by decide)]
    rfl
  rw [e, if_neg ru_ne]
end Go.Proofs.YtkchaflijlmpgaaGreatDoor
