/- Verify: over, idOf, climb, parse, Number, Verify; small facts on worlds. | Walks of the document's Number, id and Verify of layer 6. | Walk of the document's Verify of layer 6. | The document's key in memory; its New. | The document's key: ID, Left, Skip. | The document's key: At, Sign. -/
import Derived.Laws.MakeOwn
import Derived.Deep.Cut
import Derived.Test.YtiblkfkeifnpaaaGreatDoorZre
import Derived.Test.YtiblkfkeifnpaaaGreatDoorZpk
import Derived.Test.YtiblkfkeifnpaaaGreatDoorZop
import Derived.Test.YtiblkfkeifnpaaaGreatDoorZa5
import Derived.Test.YtiblkfkeifnpaaaGreatDoorZos
import Derived.Test.YtiblkfkeifnpaaaGreatDoorZkr
set_option linter.all false
namespace Go.Proofs.YtiblkfkeifnpaaaGreatDoor
open Go Go.RowKit

theorem chg0 {S : Nat → Prop} {w w' : World} (h : Below w.heap.size w w') : Pk.Chg S w w' := (Pk.Chg.of_below h).mono fun i hi e => absurd hi (by omega)
theorem dB (w : World) : Below w.heap.size w w.drew := Drawn.below ⟨1, rfl⟩
theorem mono_bel {B : Nat} {w w1 w2 : World} (h : Below B w w1) (k : Below w1.heap.size w1 w2) (hB : B ≤ w.heap.size) : Below B w w2 := h.trans (k.mono (Nat.le_trans hB h.size))

theorem pow_le (h : Nat) (hh : h ≤ 4) : 2 ^ h ≤ 16 := Nat.le_trans (Nat.pow_le_pow_right (by omega) hh) (by decide)
theorem tag2_len (k : UInt8) (a b : ByteArray) (ha : a.size ≤ 1000) (hb : b.size ≤ 1000) : (tagL k [a, b]).length ≤ 100000 := by
  simp only [tagL, tagP, List.flatMap_cons, List.flatMap_nil, List.length_cons, List.length_append, data_len, be4_length, List.length_nil]
  omega
set_option maxHeartbeats 800000 in
set_option maxRecDepth 100000 in
theorem over_any (a b : ByteArray) (w : World) (hK : KIs w) (ha : a.size = 32) (hb : b.size = 32) :
    Calls Tryz.prog 179 #[.string a, .string b] w fun e w' => e = .returned (.string (nodeV a b)) ∧ Below w.heap.size w w' := by
  have hsz := tag2_len 37 a b (by omega) (by omega)
  have hF := stagB_parts 37 (.slice (some ⟨w.heap.size, 0, none⟩) 2 2) [a, b] (w.alloc (.cells #[.string a, .string b] 9)) (parts_new w [a, b] 9) (hK.below ((Below.refl _ _).alloc (Nat.le_refl _) _) hK.lt) (by omega) (by simp)
  rw [show hashOf (tagL 37 [a, b]) = nodeV a b from rfl] at hF
  have hB : Box (Below w.heap.size w (w.alloc (.cells #[.string a, .string b] 9))) := ⟨(Below.refl _ _).alloc (Nat.le_refl _) _⟩
  obtain ⟨y, hy⟩ : ∃ y, nodeV a b = y := ⟨_, rfl⟩
  rw [hy] at hF ⊢
  clear hsz hK hy
  go_enter Tryz.func179, Tryz.ntmps179
  go_wp2_with fail
  refine hF.mono ?_
  rintro e w3 ⟨rfl, hb3⟩
  clear hF
  have hB3 : Box (Below w.heap.size w w3) := ⟨hB.out.trans (hb3.mono (by simp))⟩
  clear hb3
  go_wp2_with fail
  go_ret
  exact ⟨rfl, hB3.out⟩
set_option maxHeartbeats 800000 in
set_option maxRecDepth 100000 in
theorem id_any (h : Nat) (t : ByteArray) (w : World) (hK : KIs w) (hh : h ≤ 255) (ht : t.size = 32) :
    Calls Tryz.prog 160 #[.int .i64 (h : Int), .string t] w fun e w' => e = .returned (.string (idV h t)) ∧ Below w.heap.size w w' := by
  have h1 : (by1 h).size = 1 := rfl
  have hsz := tag2_len 38 (by1 h) t (by omega) (by omega)
  have hN : ((UInt8.ofNat h).toNat : Int) = (h : Int) := by rw [UInt8.toNat_ofNat']; omega
  have hcv := one_text w (UInt8.ofNat h)
  have hF := stagB_parts 38 (.slice (some ⟨w.heap.size + 1, 0, none⟩) 2 2) [by1 h, t] ((w.alloc (.cells #[Value.int .u8 ((UInt8.ofNat h).toNat : Int)] 5)).alloc (.cells #[.string (by1 h), .string t] 9))
    (by have := parts_new (w.alloc (.cells #[Value.int .u8 ((UInt8.ofNat h).toNat : Int)] 5)) [by1 h, t] 9; rwa [show (w.alloc (.cells #[Value.int .u8 ((UInt8.ofNat h).toNat : Int)] 5)).heap.size = w.heap.size + 1 by simp] at this)
    (hK.below (((Below.refl _ _).alloc (Nat.le_refl _) _).alloc (by simp) _) hK.lt) (by omega) (by simp)
  rw [show hashOf (tagL 38 [by1 h, t]) = idV h t from rfl] at hF
  have hB : Box (Below w.heap.size w ((w.alloc (.cells #[Value.int .u8 ((UInt8.ofNat h).toNat : Int)] 5)).alloc (.cells #[.string (by1 h), .string t] 9))) := ⟨((Below.refl _ _).alloc (Nat.le_refl _) _).alloc (by simp) _⟩
  obtain ⟨y, hy⟩ : ∃ y, idV h t = y := ⟨_, rfl⟩
  rw [hy] at hF ⊢
  rw [show one (UInt8.ofNat h) = by1 h from rfl] at hcv
  obtain ⟨x, hx⟩ : ∃ x, by1 h = x := ⟨_, rfl⟩
  rw [hx] at hF hcv hB
  rw [hN] at hF hcv hB
  clear hsz hK hy hx h1 hN
  go_enter Tryz.func160, Tryz.ntmps160
  go_wp2_with fail
  refine hF.mono ?_
  rintro e w3 ⟨rfl, hb3⟩
  clear hF
  have hB3 : Box (Below w.heap.size w w3) := ⟨hB.out.trans (hb3.mono (by simp; omega))⟩
  clear hb3
  go_wp2_with fail
  go_ret
  exact ⟨rfl, hB3.out⟩

theorem ext_ext (q : ByteArray) (a b c d : Nat) (hd : a + d ≤ b) : (q.extract a b).extract c d = q.extract (a + c) (a + d) := by
  apply ByteArray.ext
  simp only [ByteArray.data_extract, Array.extract_extract]
  rw [show min (a + d) b = a + d by omega]

theorem txt_nil {s : ByteArray} (h : s.size = 0) : s.toList.isEmpty = true := by
  rw [ByteArray.toList_eq]
  have : s.data.toList.length = 0 := by rw [data_len]; exact h
  rw [List.eq_nil_of_length_eq_zero this]; rfl
theorem txt_cons {s : ByteArray} (h : s.size ≠ 0) : s.toList.isEmpty = false := by
  rw [ByteArray.toList_eq]
  have : s.data.toList.length ≠ 0 := by rw [data_len]; exact h
  cases hs : s.data.toList with
  | nil => rw [hs] at this; exact absurd rfl this
  | cons x l => rfl
set_option maxHeartbeats 1600000 in
set_option maxRecDepth 100000 in
theorem climb_any (leaf q : ByteArray) (n h : Nat) (w : World) (hK : KIs w) (hl : leaf.size = 32) (hq : q.size = 32 * h) (hh : h ≤ 4) (hn : n < 65536) :
    Calls Tryz.prog 161 #[.string leaf, .int .i64 (n : Int), .string q] w fun e w' => e = .returned (.string (upV leaf n q h)) ∧ Below w.heap.size w w' := by
  have hB0 : Box (Below w.heap.size w w) := ⟨Below.refl _ _⟩
  have hq0 : q = q.extract (32 * 0) q.size := by rw [Nat.mul_zero]; exact (ByteArray.extract_zero_size).symm
  have hKB := Box.mk hK
  replace hq0 := Box.mk hq0
  clear hK
  go_enter Tryz.func161, Tryz.ntmps161
  go_wp2_with fail
  go_loopw [1, 2, 7] (fun v1 v2 v7 wr => ∃ j m : Nat, ∃ z x : ByteArray, j ≤ h ∧ v1 = .int .i64 (m : Int) ∧ v2 = .string z ∧ v7 = .string x ∧ Box (n / 2 ^ j = m) ∧ Box (z = q.extract (32 * j) q.size) ∧ Box (x = upV leaf n q j) ∧ Box (Below w.heap.size w wr)) (fun _ v2 _ _ => match v2 with | .string z => z.size | _ => 0)
  case atStart => exact ⟨0, n, q, leaf, by omega, rfl, rfl, rfl, ⟨by simp⟩, hq0, ⟨rfl⟩, hB0⟩
  case round =>
    clear hB0
    obtain ⟨j, m, z, x, hj, rfl, rfl, rfl, hm, hz, hx, hB⟩ := hrel
    have hzs : z.size = 32 * (h - j) := by rw [hz.out, ByteArray.size_extract, hq]; omega
    by_cases hlt : j < h
    · have he : z.toList.isEmpty = false := txt_cons (by omega)
      have hz1 : z.extract 0 32 = q.extract (32 * j) (32 * j + 32) := by rw [hz.out, ext_ext _ _ _ _ _ (by omega)]; rfl
      have hz2 : z.extract 32 (32 * (h - j)) = q.extract (32 * (j + 1)) q.size := by
        rw [hz.out, ext_ext _ _ _ _ _ (by omega)]
        congr 1
        omega
      have hos : (z.extract 0 32).size = 32 := by rw [ByteArray.size_extract]; omega
      obtain ⟨o, ho⟩ : ∃ o, z.extract 0 32 = o := ⟨_, rfl⟩
      obtain ⟨r, hr⟩ : ∃ r, z.extract 32 (32 * (h - j)) = r := ⟨_, rfl⟩
      have hxs : x.size = 32 := by rw [hx.out]; exact upV_size leaf n q hl j
      have hmb : m < 65536 := by rw [← hm.out]; exact Nat.lt_of_le_of_lt (Nat.div_le_self _ _) hn
      have hup : upV leaf n q (j + 1) = if m % 2 = 0 then nodeV x o else nodeV o x := by rw [upV, hm.out, ← hz1, ← hx.out, ho]
      have hm2 : n / 2 ^ (j + 1) = m / 2 := by rw [Nat.pow_succ, ← Nat.div_div_eq_div_mul, hm.out]
      have hrs : r.size < z.size := by rw [← hr, ByteArray.size_extract]; omega
      have hF1 := over_any x o wr (hKB.out.below hB.out hKB.out.lt) hxs (by rw [← ho]; exact hos)
      have hF2 := over_any o x wr (hKB.out.below hB.out hKB.out.lt) (by rw [← ho]; exact hos) hxs
      rw [hr] at hz2
      replace hup := Box.mk hup
      replace hz1 := Box.mk hz1
      replace hz2 := Box.mk hz2
      replace hm2 := Box.mk hm2
      replace hrs := Box.mk hrs
      by_cases h2 : m % 2 = 0
      · have e2 : (m : Int) % 2 = 0 := by omega
        go_wp2_with fail
        refine hF1.mono ?_
        rintro e w1 ⟨rfl, hb1⟩
        have hB1 : Box (Below w.heap.size w w1) := ⟨mono_bel hB.out hb1 (Nat.le_refl _)⟩
        clear hF1 hF2 hb1
        go_wp2_with fail
        refine ⟨⟨j + 1, m / 2, r, _, by omega, u_eq (by omega), rfl, rfl, ⟨hm2.out⟩, hz2, ⟨?_⟩, hB1⟩, hrs.out⟩
        rw [hup.out, if_pos h2]
      · have e2 : ((m : Int) % 2 == 0) = false := by simp; omega
        have e3 : ¬ ((m : Int) % 2 = 0) := by omega
        go_wp2_with fail
        refine hF2.mono ?_
        rintro e w1 ⟨rfl, hb1⟩
        have hB1 : Box (Below w.heap.size w w1) := ⟨mono_bel hB.out hb1 (Nat.le_refl _)⟩
        clear hF1 hF2 hb1
        go_wp2_with fail
        refine ⟨⟨j + 1, m / 2, r, _, by omega, u_eq (by omega), rfl, rfl, ⟨hm2.out⟩, hz2, ⟨?_⟩, hB1⟩, hrs.out⟩
        rw [hup.out, if_neg h2]
    · obtain rfl : j = h := by omega
      have he : z.toList.isEmpty = true := txt_nil (by omega)
      go_wp2_with fail
      go_ret
      exact ⟨by rw [hx.out]; rfl, hB.out⟩

/-- What parse's readings of any bytes come to. -/
structure Parsed (l : List UInt8) where
  h : Int
  n : Int
  o : List UInt8
  b : List UInt8
  e : Int
def readAll (l : List UInt8) : Parsed l :=
  let r1 := Pk.numR 1 l 0
  let r2 := Pk.numR 2 r1.2.1 r1.2.2
  let r3 := Pk.rawR 288 r2.2.1 r2.2.2
  let r4 := Pk.rawR (r1.1 * 32) r3.2.1 r3.2.2
  ⟨r1.1, r2.1, r3.1, r4.1, Pk.endE r4.2.1 r4.2.2⟩
theorem num_err (k : Nat) (l : List UInt8) (e : Int) (he : e ≠ 0) : Pk.numR k l e = (0, l, e) := by rw [Pk.numR, if_pos he]
theorem raw_err (n : Int) (l : List UInt8) (e : Int) (he : e ≠ 0) : Pk.rawR n l e = ([], l, e) := by rw [Pk.rawR, if_pos he]
theorem end_err (l : List UInt8) (e : Int) (he : e ≠ 0) : Pk.endE l e = e := by
  unfold Pk.endE Pk.failE
  rw [if_neg he]
  split <;> rfl
theorem num_ok (k : Nat) (l : List UInt8) (hk : k ≤ 2) (hl : k ≤ l.length) : Pk.numR k l 0 = ((Pk.numL (l.take k) : Int), l.drop k, 0) := by
  have h1 := Pk.numL_lt k (l.take k) (by rw [List.length_take]; omega)
  have h2 : (256 : Nat) ^ k ≤ 256 ^ 2 := Nat.pow_le_pow_right (by omega) hk
  rw [Pk.numR, if_neg (by simp), if_neg (by omega), if_neg (by omega)]
theorem num_short (k : Nat) (l : List UInt8) (hl : l.length < k) : Pk.numR k l 0 = (0, l, 2) := by rw [Pk.numR, if_neg (by simp), if_pos hl]
theorem raw_ok (n : Nat) (l : List UInt8) (hl : n ≤ l.length) : Pk.rawR (n : Int) l 0 = (l.take n, l.drop n, 0) := by
  rw [Pk.rawR, if_neg (by simp), if_neg (by omega), if_neg (by omega)]; rfl
theorem raw_short (n : Nat) (l : List UInt8) (hl : l.length < n) : Pk.rawR (n : Int) l 0 = ([], l, 2) := by
  rw [Pk.rawR, if_neg (by simp), if_neg (by omega), if_pos (by omega)]
theorem numL_1 (q : ByteArray) (h : 1 ≤ q.size) : Pk.numL (q.data.toList.take 1) = sgH q := by
  obtain ⟨l, hl⟩ : ∃ l, q.data.toList = l := ⟨_, rfl⟩
  have hlen : l.length = q.size := by rw [← hl]; exact data_len q
  rw [sgH, hl]
  match l, hlen with
  | [], h0 => simp at h0; omega
  | x :: l, _ => simp [Pk.numL]
theorem numL_2 (q : ByteArray) (h : 3 ≤ q.size) : Pk.numL ((q.data.toList.drop 1).take 2) = sgN q := by
  obtain ⟨l, hl⟩ : ∃ l, q.data.toList = l := ⟨_, rfl⟩
  have hlen : l.length = q.size := by rw [← hl]; exact data_len q
  rw [sgN, hl]
  match l, hlen with
  | [], h0 => simp at h0; omega
  | [x], h0 => simp at h0; omega
  | [x, y], h0 => simp at h0; omega
  | x :: y :: z :: l, _ => simp [Pk.numL]
/-- A signature's bytes are read as what they say. -/
theorem read_ok (q : ByteArray) (h : sgOk q = true) : readAll q.data.toList = ⟨(sgH q : Int), (sgN q : Int), (sgO q).data.toList, (sgB q).data.toList, 0⟩ := by
  obtain ⟨h1, h2, h3⟩ := (sgOk_iff q).1 h
  have hlen : q.data.toList.length = q.size := data_len q
  have e1 := num_ok 1 q.data.toList (by omega) (by omega)
  have e2 := num_ok 2 (q.data.toList.drop 1) (by omega) (by rw [List.length_drop]; omega)
  rw [numL_1 q (by omega)] at e1
  rw [numL_2 q (by omega), List.drop_drop] at e2
  have e3 := raw_ok 288 (q.data.toList.drop 3) (by rw [List.length_drop]; omega)
  rw [List.drop_drop] at e3
  have e4 := raw_ok (sgH q * 32) (q.data.toList.drop 291) (by rw [List.length_drop]; omega)
  have hO : (sgO q).data.toList = (q.data.toList.drop 3).take 288 := by
    rw [sgO, ByteArray.data_extract, Array.toList_extract, List.extract_eq_take_drop]
  have hB : (sgB q).data.toList = (q.data.toList.drop 291).take (sgH q * 32) := by
    rw [sgB, ByteArray.data_extract, Array.toList_extract, List.extract_eq_take_drop, show q.size - 291 = sgH q * 32 by omega]
  have hend : (q.data.toList.drop 291).drop (sgH q * 32) = [] := by
    rw [List.drop_drop]; exact List.drop_eq_nil_of_le (by omega)
  unfold readAll
  rw [show ((288 : Int)) = ((288 : Nat) : Int) from rfl]
  simp only [e1, e2, e3, show (1 + 2 : Nat) = 3 from rfl, show (3 + 288 : Nat) = 291 from rfl]
  rw [show ((sgH q : Int) * 32) = ((sgH q * 32 : Nat) : Int) by omega]
  simp only [e4, hO, hB, hend]
  rfl
/-- Other bytes are read with an error, or say a height or a number that may not be. -/
theorem read_no (q : ByteArray) (h : sgOk q = false) : (readAll q.data.toList).e ≠ 0 ∨ (readAll q.data.toList).e = 0 ∧ 4 < (readAll q.data.toList).h ∨ ∃ H N : Nat, (readAll q.data.toList).e = 0 ∧ (readAll q.data.toList).h = (H : Int) ∧ H ≤ 4 ∧ (readAll q.data.toList).n = (N : Int) ∧ 2 ^ H ≤ N := by
  have hlen : q.data.toList.length = q.size := data_len q
  have hno : ¬ (sgH q ≤ 4 ∧ q.size = 291 + 32 * sgH q ∧ sgN q < 2 ^ sgH q) := fun hh => by rw [(sgOk_iff q).2 hh] at h; cases h
  have h2n : (2 : Int) ≠ 0 := by decide
  unfold readAll
  by_cases c1 : q.size < 1
  · left
    have e1 := num_short 1 q.data.toList (by omega)
    simp only [e1, num_err _ _ _ h2n, raw_err _ _ _ h2n, end_err _ _ h2n]
    exact h2n
  have e1 := num_ok 1 q.data.toList (by omega) (by omega)
  rw [numL_1 q (by omega)] at e1
  by_cases c2 : q.size < 3
  · left
    have e2 := num_short 2 (q.data.toList.drop 1) (by rw [List.length_drop]; omega)
    simp only [e1, e2, raw_err _ _ _ h2n, end_err _ _ h2n]
    exact h2n
  have e2 := num_ok 2 (q.data.toList.drop 1) (by omega) (by rw [List.length_drop]; omega)
  rw [numL_2 q (by omega), List.drop_drop] at e2
  by_cases c3 : q.size < 291
  · left
    have e3 := raw_short 288 (q.data.toList.drop 3) (by rw [List.length_drop]; omega)
    rw [show ((288 : Int)) = ((288 : Nat) : Int) from rfl]
    simp only [e1, e2, show (1 + 2 : Nat) = 3 from rfl, e3, raw_err _ _ _ h2n, end_err _ _ h2n]
    exact h2n
  have e3 := raw_ok 288 (q.data.toList.drop 3) (by rw [List.length_drop]; omega)
  rw [List.drop_drop] at e3
  rw [show ((288 : Int)) = ((288 : Nat) : Int) from rfl]
  simp only [e1, e2, show (1 + 2 : Nat) = 3 from rfl, e3, show (3 + 288 : Nat) = 291 from rfl]
  rw [show ((sgH q : Int) * 32) = ((sgH q * 32 : Nat) : Int) by omega]
  by_cases c4 : q.size < 291 + sgH q * 32
  · left
    have e4 := raw_short (sgH q * 32) (q.data.toList.drop 291) (by rw [List.length_drop]; omega)
    simp only [e4, end_err _ _ h2n]
    exact h2n
  have e4 := raw_ok (sgH q * 32) (q.data.toList.drop 291) (by rw [List.length_drop]; omega)
  simp only [e4]
  by_cases c5 : 0 < ((q.data.toList.drop 291).drop (sgH q * 32)).length
  · left
    rw [Pk.endE, if_pos c5]
    decide
  have c6 : q.size = 291 + 32 * sgH q := by rw [List.length_drop, List.length_drop] at c5; omega
  rw [Pk.endE, if_neg c5]
  right
  by_cases c7 : sgH q ≤ 4
  · right
    exact ⟨sgH q, sgN q, rfl, rfl, c7, rfl, by omega⟩
  · left
    exact ⟨rfl, by omega⟩
set_option maxHeartbeats 400000 in
theorem read_new (s : ByteArray) (w : World) :
    Calls Tryz.prog 43 #[.string s] w fun e w' => e = .returned (.pointer (some ⟨w.heap.size, 0, none⟩)) ∧ w' = w.alloc (.cells #[.string s, .int .i64 0] 119) := by
  go_enter Tryz.func43, Tryz.ntmps43
  go_wp2_with fail
  go_ret
  exact ⟨rfl, rfl⟩
/-- What a signature's bytes are parsed to. -/
def sgV (h n : Int) (o b : ByteArray) : Value := .agg #[.int .i64 h, .int .i64 n, .string o, .string b]
def scells (h n : Int) (o b : ByteArray) : List Value := [.int .i64 h, .int .i64 n, .string o, .string b]

def parseV (q : ByteArray) : Value := if sgOk q then .tuple #[sgV (sgH q) (sgN q) (sgO q) (sgB q), .bool true] else .tuple #[sgV 0 0 ⟨#[]⟩ ⟨#[]⟩, .bool false]
theorem num1_range (l : List UInt8) : 0 ≤ (Pk.numR 1 l 0).1 ∧ (Pk.numR 1 l 0).1 ≤ 255 := by
  by_cases h : l.length < 1
  · rw [num_short 1 l h]; exact ⟨by simp, by simp⟩
  · rw [num_ok 1 l (by omega) (by omega)]
    have := Pk.numL_lt 1 (l.take 1) (by rw [List.length_take]; omega)
    exact ⟨by simp, by simp; omega⟩
/-- What parse has in memory: what it will answer, what it has read, the reader. -/
structure PSt (w0 w : World) (cs : List Value) (l : List UInt8) (e : Int) : Prop where
  res : Blk w w0.heap.size (scells 0 0 ⟨#[]⟩ ⟨#[]⟩) 181
  sv : Blk w (w0.heap.size + 2) cs 181
  rd : Pk.RAt w (w0.heap.size + 1) 119 l e
  bel : Below w0.heap.size w0 w
theorem PSt.reader {w0 w w' : World} {cs : List Value} {l l2 : List UInt8} {e e2 : Int} (h : PSt w0 w cs l e) (hN : Pk.RNext w (w0.heap.size + 1) 119 l2 e2 w') : PSt w0 w' cs l2 e2 :=
  ⟨hN.chg.blk h.res (by omega), hN.chg.blk h.sv (by omega), hN.at_, h.bel.trans (hN.chg.below h.bel.size (fun i hi => by omega))⟩
theorem PSt.put {w0 w : World} {cs : List Value} {l : List UInt8} {e : Int} (h : PSt w0 w cs l e) (i : Nat) (v : Value) : PSt w0 (w.setCell ⟨w0.heap.size + 2, i, none⟩ v) (cs.set i v) l e :=
  ⟨h.res.setCell_other _ _ (by simp), h.sv.setCell i v, Blk.setCell_other (show Blk w _ _ _ from h.rd) _ _ (by simp), h.bel.setCell (by simp) _⟩
set_option maxHeartbeats 3200000 in
set_option maxRecDepth 100000 in
theorem parse_any (q : ByteArray) (w : World) :
    Calls Tryz.prog 158 #[.string q] w fun e w' => e = .returned (parseV q) ∧ Below w.heap.size w w' := by
  have hrg := num1_range q.data.toList
  have hcase : sgOk q = true ∧ (readAll q.data.toList) = ⟨(sgH q : Int), (sgN q : Int), (sgO q).data.toList, (sgB q).data.toList, 0⟩ ∨ sgOk q = false ∧ ((readAll q.data.toList).e ≠ 0 ∨ (readAll q.data.toList).e = 0 ∧ 4 < (readAll q.data.toList).h ∨ ∃ H N : Nat, (readAll q.data.toList).e = 0 ∧ (readAll q.data.toList).h = (H : Int) ∧ H ≤ 4 ∧ (readAll q.data.toList).n = (N : Int) ∧ 2 ^ H ≤ N) := by
    cases hq : sgOk q with
    | true => exact .inl ⟨rfl, read_ok q hq⟩
    | false => exact .inr ⟨rfl, read_no q hq⟩
  obtain ⟨w1, hw1⟩ : ∃ w1, w.alloc (.cells #[.int .i64 0, .int .i64 0, .string ⟨#[]⟩, .string ⟨#[]⟩] 181) = w1 := ⟨_, rfl⟩
  have hz1 : w1.heap.size = w.heap.size + 1 := by rw [← hw1]; simp
  obtain ⟨w2, hw2⟩ : ∃ w2, w1.alloc (.cells #[.string q, .int .i64 0] 119) = w2 := ⟨_, rfl⟩
  have hz2 : w2.heap.size = w.heap.size + 2 := by rw [← hw2]; simp; omega
  obtain ⟨w3, hw3⟩ : ∃ w3, w2.alloc (.cells #[.int .i64 0, .int .i64 0, .string ⟨#[]⟩, .string ⟨#[]⟩] 181) = w3 := ⟨_, rfl⟩
  have hRd := read_new q w1
  rw [hz1, hw2] at hRd
  have hP : PSt w w3 (scells 0 0 ⟨#[]⟩ ⟨#[]⟩) q.data.toList 0 := by
    refine ⟨?_, ?_, ?_, ?_⟩
    · rw [← hw3, ← hw2, ← hw1]; exact ((Blk.new w _ _).alloc _).alloc _
    · rw [← hw3, ← hz2]; exact Blk.new w2 _ _
    · have h1 : Blk w2 w1.heap.size [.string q, .int .i64 0] 119 := by rw [← hw2]; exact Blk.new w1 _ _
      rw [hz1] at h1
      rw [← hw3]; exact h1.alloc _
    · rw [← hw3, ← hw2, ← hw1]; exact (((Below.refl _ _).alloc (Nat.le_refl _) _).alloc (by simp) _).alloc (by simp; omega) _
  have hF1 := Pk.rbyte_any (w.heap.size + 1) q.data.toList 0 w3 hP.rd
  obtain ⟨R, hR⟩ : ∃ R, readAll q.data.toList = R := ⟨_, rfl⟩
  rw [hR] at hcase
  simp only [readAll] at hR
  have hF2 := fun w' (h : Pk.RAt w' (w.heap.size + 1) 119 (Pk.numR 1 q.data.toList 0).2.1 (Pk.numR 1 q.data.toList 0).2.2) => Pk.rtwo_any (w.heap.size + 1) _ _ w' h
  generalize hx1 : Pk.numR 1 q.data.toList 0 = x1 at hF1 hF2 hR hrg
  have hF3 := fun w' (h : Pk.RAt w' (w.heap.size + 1) 119 (Pk.numR 2 x1.2.1 x1.2.2).2.1 (Pk.numR 2 x1.2.1 x1.2.2).2.2) => Pk.rraw_any (w.heap.size + 1) _ _ 288 w' h
  generalize hx2 : Pk.numR 2 x1.2.1 x1.2.2 = x2 at hF2 hF3 hR
  have hF4 := fun w' (h : Pk.RAt w' (w.heap.size + 1) 119 (Pk.rawR 288 x2.2.1 x2.2.2).2.1 (Pk.rawR 288 x2.2.1 x2.2.2).2.2) => Pk.rraw_any (w.heap.size + 1) _ _ (x1.1 * 32) w' h
  generalize hx3 : Pk.rawR 288 x2.2.1 x2.2.2 = x3 at hF3 hF4 hR
  have hF5 := fun w' (h : Pk.RAt w' (w.heap.size + 1) 119 (Pk.rawR (x1.1 * 32) x3.2.1 x3.2.2).2.1 (Pk.rawR (x1.1 * 32) x3.2.1 x3.2.2).2.2) => Pk.end_any (w.heap.size + 1) _ _ w' h
  generalize hx4 : Pk.rawR (x1.1 * 32) x3.2.1 x3.2.2 = x4 at hF4 hF5 hR
  generalize hx5 : Pk.endE x4.2.1 x4.2.2 = x5 at hF5 hR
  obtain ⟨hv, l1, e1⟩ := x1
  obtain ⟨nv, l2, e2⟩ := x2
  obtain ⟨ov, l3, e3⟩ := x3
  obtain ⟨bv, l4, e4⟩ := x4
  simp only at hF1 hF2 hF3 hF4 hF5 hR hrg
  subst hR
  simp only at hcase
  obtain ⟨o, ho⟩ : ∃ o, Pk.btx ov = o := ⟨_, rfl⟩
  obtain ⟨b, hb⟩ : ∃ b, Pk.btx bv = b := ⟨_, rfl⟩
  rw [ho] at hF3
  rw [hb] at hF4
  replace hF2 := Box.mk hF2
  replace hF3 := Box.mk hF3
  replace hF4 := Box.mk hF4
  replace hF5 := Box.mk hF5
  replace hcase := Box.mk hcase
  replace ho := Box.mk ho
  replace hb := Box.mk hb
  replace hP := Box.mk hP
  clear hx1 hx2 hx3 hx4 hx5
  go_enter Tryz.func158, Tryz.ntmps158
  go_wp2_with fail
  refine hRd.mono ?_
  rintro e w2' ⟨rfl, rfl⟩
  clear hRd
  go_wp2_with fail
  refine hF1.mono ?_
  clear hF1
  rintro e w4 ⟨rfl, hN⟩
  have p4 := hP.out.reader hN
  have c := p4.sv.cell 0
  have f := p4.sv.free 0
  have p5 := p4.put 0 (.int .i64 hv)
  have hF := hF2.out _ p5.rd
  replace p5 := Box.mk p5
  clear hP hN p4 hF2
  go_wp2_with fail
  refine hF.mono ?_
  clear hF c f
  rintro e w6 ⟨rfl, hN⟩
  have p6 := p5.out.reader hN
  have c := p6.sv.cell 1
  have f := p6.sv.free 1
  have p7 := p6.put 1 (.int .i64 nv)
  have hF := hF3.out _ p7.rd
  replace p7 := Box.mk p7
  clear hN p5 p6 hF3
  go_wp2_with fail
  refine hF.mono ?_
  clear hF c f
  rintro e w8 ⟨rfl, hN⟩
  have p8 := p7.out.reader hN
  have c := p8.sv.cell 2
  have f := p8.sv.free 2
  have p9 := p8.put 2 (.string o)
  have hF := hF4.out _ p9.rd
  have c0 : (w8.setCell ⟨w.heap.size + 2, 2, none⟩ (.string o)).cell? ⟨w.heap.size + 2, 0, none⟩ = some (.int .i64 hv) := p9.sv.cell 0
  replace p9 := Box.mk p9
  clear hN p7 p8 hF4
  go_wp2_with fail
  refine hF.mono ?_
  clear hF c f c0
  rintro e w10 ⟨rfl, hN⟩
  have p10 := p9.out.reader hN
  have c := p10.sv.cell 3
  have f := p10.sv.free 3
  have p11 := p10.put 3 (.string b)
  obtain ⟨w11, hw11⟩ : ∃ w11, w10.setCell ⟨w.heap.size + 2, 3, none⟩ (.string b) = w11 := ⟨_, rfl⟩
  rw [hw11] at p11
  have hF := hF5.out w11.drew p11.rd
  have hlst : (((((scells 0 0 ⟨#[]⟩ ⟨#[]⟩).set 0 (.int .i64 hv)).set 1 (.int .i64 nv)).set 2 (.string o)).set 3 (.string b)) = scells hv nv o b := rfl
  rw [hlst] at p11
  replace p11 := Box.mk p11
  clear hN p9 p10 hF5 hlst
  go_wp2_with fail
  have k0 : w11.drew.cell? ⟨w.heap.size + 2, 0, none⟩ = some (.int .i64 hv) := p11.out.sv.cell 0
  have k1 : w11.drew.cell? ⟨w.heap.size + 2, 1, none⟩ = some (.int .i64 nv) := p11.out.sv.cell 1
  refine region_go (C := fun w' => w'.cell? ⟨w.heap.size + 2, 0, none⟩ = some (.int .i64 hv) ∧ w'.cell? ⟨w.heap.size + 2, 1, none⟩ = some (.int .i64 nv)) rfl ?_
  refine go_calms [0] 15 rfl (by kernel_rfl) (by kernel_rfl) (by kernel_rfl) ⟨k0, k1⟩ ?_
  simp [nth]
  try simp only [Act.put]
  repeat (go_big_quiet_step (first | exact fun _ => rfl | rfl))
  refine wpQuiet_nil ?_
  refine go_forced 1 (by kernel_rfl) (goOp_wp 1 rfl rfl (fun K hK => ?_))
  go_simp
  refine hF.mono ?_
  clear hF
  rintro e w12 ⟨rfl, hN⟩
  have p12 := PSt.reader (w := w11.drew) ⟨p11.out.res, p11.out.sv, p11.out.rd, p11.out.bel.trans ((dB w11).mono p11.out.bel.size)⟩ hN
  have C2 : w12.cell? ⟨w.heap.size + 2, 0, none⟩ = some (.int .i64 hv) ∧ w12.cell? ⟨w.heap.size + 2, 1, none⟩ = some (.int .i64 nv) := ⟨p12.sv.cell 0, p12.sv.cell 1⟩
  refine hK _ _ C2 ?_
  replace p12 := Box.mk p12
  clear hK K hN p11
  have r0 := p12.out.res.cell 0
  have r1 := p12.out.res.cell 1
  have r2 := p12.out.res.cell 2
  have r3 := p12.out.res.cell 3
  have f0 := p12.out.res.free 0
  have f1 := p12.out.res.free 1
  have f2 := p12.out.res.free 2
  have f3 := p12.out.res.free 3
  have s2 := p12.out.sv.cell 2
  have s3 := p12.out.sv.cell 3
  simp only [scells, List.getElem?_cons_zero, List.getElem?_cons_succ] at r0 r1 r2 r3 s2 s3
  rcases hcase.out with ⟨hok, hc⟩ | ⟨hno, hc | ⟨hc, hc2⟩ | ⟨H, N, hc1, hc2, hc3, hc4, hc5⟩⟩
  · obtain ⟨rfl, rfl, rfl, rfl, rfl⟩ : hv = (sgH q : Int) ∧ nv = (sgN q : Int) ∧ ov = (sgO q).data.toList ∧ bv = (sgB q).data.toList ∧ x5 = 0 := by simpa using hc
    obtain ⟨q1, q2, q3⟩ := (sgOk_iff q).1 hok
    have hv4 : ¬ 4 < (sgH q : Int) := by omega
    obtain ⟨P, hP⟩ : ∃ P, 2 ^ sgH q = P := ⟨_, rfl⟩
    have hp : (2 : Int) ^ sgH q = (P : Int) := by rw [← hP]; simp
    have hP16 : P ≤ 16 := by rw [← hP]; exact pow_le _ q1
    have hwr : IntKind.i64.wrap (P : Int) = (P : Int) := by rw [IntKind.wrap_i64]; omega
    have hge : sgN q < P := by omega
    refine go_calms [2, 3, 4, 5, 6, 7, 8, 9, 10, 11, 12, 13, 14, 15] 0 rfl (by kernel_rfl) (by kernel_rfl) (by kernel_rfl) C2 ?_
    simp [nth]
    try simp only [Act.put, List.setIfInBounds_toArray, List.set_cons_succ, List.set_cons_zero]
    refine quiet_any rfl (.bool false) (fun w' hw' => by go_simp) ?_
    simp only [Act.put, List.setIfInBounds_toArray, List.set_cons_succ, List.set_cons_zero]
    repeat (go_big_quiet_step (first | exact fun _ => rfl | rfl))
    refine quiet_any rfl (.pointer (some ⟨w.heap.size + 2, 0, none⟩)) (fun w' hw' => by have h := hw'.1; go_simp) ?_
    simp only [Act.put, List.setIfInBounds_toArray, List.set_cons_succ, List.set_cons_zero]
    refine quiet_any rfl (.int .i64 (sgH q : Int)) (fun w' hw' => by have h := hw'.1; go_simp) ?_
    simp only [Act.put, List.setIfInBounds_toArray, List.set_cons_succ, List.set_cons_zero]
    refine quiet_any rfl (.bool false) (fun w' hw' => by go_simp) ?_
    simp only [Act.put, List.setIfInBounds_toArray, List.set_cons_succ, List.set_cons_zero]
    refine quiet_any rfl (.bool false) (fun w' hw' => by go_simp) ?_
    simp only [Act.put, List.setIfInBounds_toArray, List.set_cons_succ, List.set_cons_zero]
    repeat (go_big_quiet_step (first | exact fun _ => rfl | rfl))
    refine quiet_any rfl (.pointer (some ⟨w.heap.size + 2, 1, none⟩)) (fun w' hw' => by have h := hw'.2; go_simp) ?_
    simp only [Act.put, List.setIfInBounds_toArray, List.set_cons_succ, List.set_cons_zero]
    refine quiet_any rfl (.int .i64 (sgN q : Int)) (fun w' hw' => by have h := hw'.2; go_simp) ?_
    simp only [Act.put, List.setIfInBounds_toArray, List.set_cons_succ, List.set_cons_zero]
    refine quiet_any rfl (.pointer (some ⟨w.heap.size + 2, 0, none⟩)) (fun w' hw' => by have h := hw'.1; go_simp) ?_
    simp only [Act.put, List.setIfInBounds_toArray, List.set_cons_succ, List.set_cons_zero]
    refine quiet_any rfl (.int .i64 (sgH q : Int)) (fun w' hw' => by have h := hw'.1; go_simp) ?_
    simp only [Act.put, List.setIfInBounds_toArray, List.set_cons_succ, List.set_cons_zero]
    refine quiet_any rfl (.int .i64 (P : Int)) (fun w' hw' => by go_simp) ?_
    simp only [Act.put, List.setIfInBounds_toArray, List.set_cons_succ, List.set_cons_zero]
    refine quiet_any rfl (.bool false) (fun w' hw' => by go_simp) ?_
    simp only [Act.put, List.setIfInBounds_toArray, List.set_cons_succ, List.set_cons_zero]
    refine quiet_any rfl (.bool false) (fun w' hw' => by go_simp) ?_
    simp only [Act.put, List.setIfInBounds_toArray, List.set_cons_succ, List.set_cons_zero]
    refine wpQuiet_nil ?_
    refine go_done (by kernel_rfl) ?_
    go_simp
    go_wp2_with fail
    have hz := (((p12.out.res.setCell 0 (.int .i64 (sgH q : Int))).setCell 1 (.int .i64 (sgN q : Int))).setCell 2 (.string o)).setCell 3 (.string b)
    have hzB : Below w.heap.size w ((((w12.setCell ⟨w.heap.size, 0, none⟩ (.int .i64 (sgH q : Int))).setCell ⟨w.heap.size, 1, none⟩ (.int .i64 (sgN q : Int))).setCell ⟨w.heap.size, 2, none⟩ (.string o)).setCell ⟨w.heap.size, 3, none⟩ (.string b)) := (((p12.out.bel.setCell (by simp) _).setCell (by simp) _).setCell (by simp) _).setCell (by simp) _
    obtain ⟨wz, hwz⟩ : ∃ wz, ((((w12.setCell ⟨w.heap.size, 0, none⟩ (.int .i64 (sgH q : Int))).setCell ⟨w.heap.size, 1, none⟩ (.int .i64 (sgN q : Int))).setCell ⟨w.heap.size, 2, none⟩ (.string o)).setCell ⟨w.heap.size, 3, none⟩ (.string b)) = wz := ⟨_, rfl⟩
    rw [hwz] at hz hzB ⊢
    have g0 := hz.cell 0
    have g1 := hz.cell 1
    have g2 := hz.cell 2
    have g3 := hz.cell 3
    simp only [scells, List.set_cons_zero, List.set_cons_succ, List.getElem?_cons_zero, List.getElem?_cons_succ] at g0 g1 g2 g3
    clear hz hwz
    refine bodyPost_ret (v := .tuple #[.agg #[.int .i64 (sgH q : Int), .int .i64 (sgN q : Int), .string o, .string b], .bool true]) (by simp [results, Tryz.results158, go_sem, g0, g1, g2, g3]) rfl ⟨by rw [parseV, if_pos hok, ← ho.out, ← hb.out]; rfl, hzB⟩
  · have hx : ¬ x5 = 0 := hc
    have hx1 : (x5 != 0) = true := by simp [hx]
    refine go_calms [2, 3, 4, 5, 6, 7, 8, 9, 10, 11, 12, 13, 14, 15] 0 rfl (by kernel_rfl) (by kernel_rfl) (by kernel_rfl) C2 ?_
    simp [nth]
    try simp only [Act.put, List.setIfInBounds_toArray, List.set_cons_succ, List.set_cons_zero]
    refine quiet_any rfl (.bool true) (fun w' hw' => by go_simp) ?_
    simp only [Act.put, List.setIfInBounds_toArray, List.set_cons_succ, List.set_cons_zero]
    repeat (go_big_quiet_step (first | exact fun _ => rfl | rfl))
    refine quiet_any rfl (.bool true) (fun w' hw' => by go_simp) ?_
    simp only [Act.put, List.setIfInBounds_toArray, List.set_cons_succ, List.set_cons_zero]
    repeat (go_big_quiet_step (first | exact fun _ => rfl | rfl))
    refine quiet_any rfl (.bool true) (fun w' hw' => by go_simp) ?_
    simp only [Act.put, List.setIfInBounds_toArray, List.set_cons_succ, List.set_cons_zero]
    refine wpQuiet_nil ?_
    refine go_done (by kernel_rfl) ?_
    go_simp
    go_wp2_with fail
    have hz := (((p12.out.res.setCell 0 (.int .i64 0)).setCell 1 (.int .i64 0)).setCell 2 (.string ⟨#[]⟩)).setCell 3 (.string ⟨#[]⟩)
    have hzB : Below w.heap.size w ((((w12.setCell ⟨w.heap.size, 0, none⟩ (.int .i64 0)).setCell ⟨w.heap.size, 1, none⟩ (.int .i64 0)).setCell ⟨w.heap.size, 2, none⟩ (.string ⟨#[]⟩)).setCell ⟨w.heap.size, 3, none⟩ (.string ⟨#[]⟩)) := (((p12.out.bel.setCell (by simp) _).setCell (by simp) _).setCell (by simp) _).setCell (by simp) _
    obtain ⟨wz, hwz⟩ : ∃ wz, ((((w12.setCell ⟨w.heap.size, 0, none⟩ (.int .i64 0)).setCell ⟨w.heap.size, 1, none⟩ (.int .i64 0)).setCell ⟨w.heap.size, 2, none⟩ (.string ⟨#[]⟩)).setCell ⟨w.heap.size, 3, none⟩ (.string ⟨#[]⟩)) = wz := ⟨_, rfl⟩
    rw [hwz] at hz hzB ⊢
    have g0 := hz.cell 0
    have g1 := hz.cell 1
    have g2 := hz.cell 2
    have g3 := hz.cell 3
    simp only [scells, List.set_cons_zero, List.set_cons_succ, List.getElem?_cons_zero, List.getElem?_cons_succ] at g0 g1 g2 g3
    clear hz hwz
    refine bodyPost_ret (v := .tuple #[.agg #[.int .i64 0, .int .i64 0, .string ⟨#[]⟩, .string ⟨#[]⟩], .bool false]) (by simp [results, Tryz.results158, go_sem, g0, g1, g2, g3]) rfl ⟨by rw [parseV, hno]; rfl, hzB⟩
  · obtain rfl : x5 = 0 := hc
    have hv4 : 4 < hv := hc2
    refine go_calms [2, 3, 4, 5, 6, 7, 8, 9, 10, 11, 12, 13, 14, 15] 0 rfl (by kernel_rfl) (by kernel_rfl) (by kernel_rfl) C2 ?_
    simp [nth]
    try simp only [Act.put, List.setIfInBounds_toArray, List.set_cons_succ, List.set_cons_zero]
    refine quiet_any rfl (.bool false) (fun w' hw' => by go_simp) ?_
    simp only [Act.put, List.setIfInBounds_toArray, List.set_cons_succ, List.set_cons_zero]
    repeat (go_big_quiet_step (first | exact fun _ => rfl | rfl))
    refine quiet_any rfl (.pointer (some ⟨w.heap.size + 2, 0, none⟩)) (fun w' hw' => by have h := hw'.1; go_simp) ?_
    simp only [Act.put, List.setIfInBounds_toArray, List.set_cons_succ, List.set_cons_zero]
    refine quiet_any rfl (.int .i64 hv) (fun w' hw' => by have h := hw'.1; go_simp) ?_
    simp only [Act.put, List.setIfInBounds_toArray, List.set_cons_succ, List.set_cons_zero]
    refine quiet_any rfl (.bool true) (fun w' hw' => by go_simp) ?_
    simp only [Act.put, List.setIfInBounds_toArray, List.set_cons_succ, List.set_cons_zero]
    refine quiet_any rfl (.bool true) (fun w' hw' => by go_simp) ?_
    simp only [Act.put, List.setIfInBounds_toArray, List.set_cons_succ, List.set_cons_zero]
    repeat (go_big_quiet_step (first | exact fun _ => rfl | rfl))
    refine quiet_any rfl (.bool true) (fun w' hw' => by go_simp) ?_
    simp only [Act.put, List.setIfInBounds_toArray, List.set_cons_succ, List.set_cons_zero]
    refine wpQuiet_nil ?_
    refine go_done (by kernel_rfl) ?_
    go_simp
    go_wp2_with fail
    have hz := (((p12.out.res.setCell 0 (.int .i64 0)).setCell 1 (.int .i64 0)).setCell 2 (.string ⟨#[]⟩)).setCell 3 (.string ⟨#[]⟩)
    have hzB : Below w.heap.size w ((((w12.setCell ⟨w.heap.size, 0, none⟩ (.int .i64 0)).setCell ⟨w.heap.size, 1, none⟩ (.int .i64 0)).setCell ⟨w.heap.size, 2, none⟩ (.string ⟨#[]⟩)).setCell ⟨w.heap.size, 3, none⟩ (.string ⟨#[]⟩)) := (((p12.out.bel.setCell (by simp) _).setCell (by simp) _).setCell (by simp) _).setCell (by simp) _
    obtain ⟨wz, hwz⟩ : ∃ wz, ((((w12.setCell ⟨w.heap.size, 0, none⟩ (.int .i64 0)).setCell ⟨w.heap.size, 1, none⟩ (.int .i64 0)).setCell ⟨w.heap.size, 2, none⟩ (.string ⟨#[]⟩)).setCell ⟨w.heap.size, 3, none⟩ (.string ⟨#[]⟩)) = wz := ⟨_, rfl⟩
    rw [hwz] at hz hzB ⊢
    have g0 := hz.cell 0
    have g1 := hz.cell 1
    have g2 := hz.cell 2
    have g3 := hz.cell 3
    simp only [scells, List.set_cons_zero, List.set_cons_succ, List.getElem?_cons_zero, List.getElem?_cons_succ] at g0 g1 g2 g3
    clear hz hwz
    refine bodyPost_ret (v := .tuple #[.agg #[.int .i64 0, .int .i64 0, .string ⟨#[]⟩, .string ⟨#[]⟩], .bool false]) (by simp [results, Tryz.results158, go_sem, g0, g1, g2, g3]) rfl ⟨by rw [parseV, hno]; rfl, hzB⟩
  · obtain rfl : x5 = 0 := hc1
    obtain rfl : hv = (H : Int) := hc2
    obtain rfl : nv = (N : Int) := hc4
    have hv4 : ¬ 4 < (H : Int) := by omega
    obtain ⟨P, hP⟩ : ∃ P, 2 ^ H = P := ⟨_, rfl⟩
    have hp : (2 : Int) ^ H = (P : Int) := by rw [← hP]; simp
    have hP16 : P ≤ 16 := by rw [← hP]; exact pow_le H hc3
    have hwr : IntKind.i64.wrap (P : Int) = (P : Int) := by rw [IntKind.wrap_i64]; omega
    have hge : (P : Int) ≤ (N : Int) := by omega
    refine go_calms [2, 3, 4, 5, 6, 7, 8, 9, 10, 11, 12, 13, 14, 15] 0 rfl (by kernel_rfl) (by kernel_rfl) (by kernel_rfl) C2 ?_
    simp [nth]
    try simp only [Act.put, List.setIfInBounds_toArray, List.set_cons_succ, List.set_cons_zero]
    refine quiet_any rfl (.bool false) (fun w' hw' => by go_simp) ?_
    simp only [Act.put, List.setIfInBounds_toArray, List.set_cons_succ, List.set_cons_zero]
    repeat (go_big_quiet_step (first | exact fun _ => rfl | rfl))
    refine quiet_any rfl (.pointer (some ⟨w.heap.size + 2, 0, none⟩)) (fun w' hw' => by have h := hw'.1; go_simp) ?_
    simp only [Act.put, List.setIfInBounds_toArray, List.set_cons_succ, List.set_cons_zero]
    refine quiet_any rfl (.int .i64 (H : Int)) (fun w' hw' => by have h := hw'.1; go_simp) ?_
    simp only [Act.put, List.setIfInBounds_toArray, List.set_cons_succ, List.set_cons_zero]
    refine quiet_any rfl (.bool false) (fun w' hw' => by go_simp) ?_
    simp only [Act.put, List.setIfInBounds_toArray, List.set_cons_succ, List.set_cons_zero]
    refine quiet_any rfl (.bool false) (fun w' hw' => by go_simp) ?_
    simp only [Act.put, List.setIfInBounds_toArray, List.set_cons_succ, List.set_cons_zero]
    repeat (go_big_quiet_step (first | exact fun _ => rfl | rfl))
    refine quiet_any rfl (.pointer (some ⟨w.heap.size + 2, 1, none⟩)) (fun w' hw' => by have h := hw'.2; go_simp) ?_
    simp only [Act.put, List.setIfInBounds_toArray, List.set_cons_succ, List.set_cons_zero]
    refine quiet_any rfl (.int .i64 (N : Int)) (fun w' hw' => by have h := hw'.2; go_simp) ?_
    simp only [Act.put, List.setIfInBounds_toArray, List.set_cons_succ, List.set_cons_zero]
    refine quiet_any rfl (.pointer (some ⟨w.heap.size + 2, 0, none⟩)) (fun w' hw' => by have h := hw'.1; go_simp) ?_
    simp only [Act.put, List.setIfInBounds_toArray, List.set_cons_succ, List.set_cons_zero]
    refine quiet_any rfl (.int .i64 (H : Int)) (fun w' hw' => by have h := hw'.1; go_simp) ?_
    simp only [Act.put, List.setIfInBounds_toArray, List.set_cons_succ, List.set_cons_zero]
    refine quiet_any rfl (.int .i64 (P : Int)) (fun w' hw' => by go_simp) ?_
    simp only [Act.put, List.setIfInBounds_toArray, List.set_cons_succ, List.set_cons_zero]
    refine quiet_any rfl (.bool true) (fun w' hw' => by go_simp) ?_
    simp only [Act.put, List.setIfInBounds_toArray, List.set_cons_succ, List.set_cons_zero]
    refine quiet_any rfl (.bool true) (fun w' hw' => by go_simp) ?_
    simp only [Act.put, List.setIfInBounds_toArray, List.set_cons_succ, List.set_cons_zero]
    refine wpQuiet_nil ?_
    refine go_done (by kernel_rfl) ?_
    go_simp
    go_wp2_with fail
    have hz := (((p12.out.res.setCell 0 (.int .i64 0)).setCell 1 (.int .i64 0)).setCell 2 (.string ⟨#[]⟩)).setCell 3 (.string ⟨#[]⟩)
    have hzB : Below w.heap.size w ((((w12.setCell ⟨w.heap.size, 0, none⟩ (.int .i64 0)).setCell ⟨w.heap.size, 1, none⟩ (.int .i64 0)).setCell ⟨w.heap.size, 2, none⟩ (.string ⟨#[]⟩)).setCell ⟨w.heap.size, 3, none⟩ (.string ⟨#[]⟩)) := (((p12.out.bel.setCell (by simp) _).setCell (by simp) _).setCell (by simp) _).setCell (by simp) _
    obtain ⟨wz, hwz⟩ : ∃ wz, ((((w12.setCell ⟨w.heap.size, 0, none⟩ (.int .i64 0)).setCell ⟨w.heap.size, 1, none⟩ (.int .i64 0)).setCell ⟨w.heap.size, 2, none⟩ (.string ⟨#[]⟩)).setCell ⟨w.heap.size, 3, none⟩ (.string ⟨#[]⟩)) = wz := ⟨_, rfl⟩
    rw [hwz] at hz hzB ⊢
    have g0 := hz.cell 0
    have g1 := hz.cell 1
    have g2 := hz.cell 2
    have g3 := hz.cell 3
    simp only [scells, List.set_cons_zero, List.set_cons_succ, List.getElem?_cons_zero, List.getElem?_cons_succ] at g0 g1 g2 g3
    clear hz hwz
    refine bodyPost_ret (v := .tuple #[.agg #[.int .i64 0, .int .i64 0, .string ⟨#[]⟩, .string ⟨#[]⟩], .bool false]) (by simp [results, Tryz.results158, go_sem, g0, g1, g2, g3]) rfl ⟨by rw [parseV, hno]; rfl, hzB⟩

theorem sgO_size (q : ByteArray) (h : sgOk q = true) : (sgO q).size = 288 := by
  obtain ⟨h1, h2, h3⟩ := (sgOk_iff q).1 h
  rw [sgO, ByteArray.size_extract]; omega
theorem sgB_size (q : ByteArray) (h : sgOk q = true) : (sgB q).size = 32 * sgH q := by
  obtain ⟨h1, h2, h3⟩ := (sgOk_iff q).1 h
  rw [sgB, ByteArray.size_extract]; omega
theorem txt_ne {a b : ByteArray} (h : ¬ a = b) : ¬ a.toList = b.toList := fun e => h (by
  rw [ByteArray.toList_eq, ByteArray.toList_eq] at e
  exact ByteArray.ext (Array.ext' e))
theorem pow2_lt (h : Nat) (hh : h ≤ 4) : 2 ^ h < 65536 := by have := pow_le h hh; omega
/-- A struct of four fields in a new block. -/
theorem sg_store (w w1 : World) (h n : Int) (o b : ByteArray) (hb : Below w.heap.size w w1) :
    Blk (w1.alloc (.cells #[.int .i64 h, .int .i64 n, .string o, .string b] 181)) w1.heap.size (scells h n o b) 181 ∧ Below w.heap.size w (w1.alloc (.cells #[.int .i64 h, .int .i64 n, .string o, .string b] 181)) :=
  ⟨Blk.new w1 (scells h n o b) _, hb.alloc hb.size _⟩

set_option maxHeartbeats 1600000 in
set_option maxRecDepth 100000 in
theorem verify_no (i t q : ByteArray) (w : World) (hq : sgOk q = false) :
    Calls Tryz.prog 142 #[.string i, .string t, .string q] w fun e w' => e = .returned (.int .i64 3) ∧ Below w.heap.size w w' := by
  have hP := parse_any q w
  have hnot : ∀ (x : Bool) (w : World), (Op.unary .not (.bool x)).run Tryz.prog w = .ok (.bool (!x)) w := fun _ _ => rfl
  rw [parseV, hq, if_neg (by simp)] at hP
  have hS := fun w1 (hb : Below w.heap.size w w1) => sg_store w w1 0 0 ⟨#[]⟩ ⟨#[]⟩ hb
  unfold sgV at hP
  replace hS := Box.mk hS
  clear hq
  go_enter Tryz.func142, Tryz.ntmps142
  go_wp2_with fail
  refine hP.mono ?_
  clear hP
  rintro e w1 ⟨rfl, hb1⟩
  obtain ⟨h1, h2⟩ := hS.out w1 hb1
  replace h2 := Box.mk h2
  clear hS hb1 h1
  go_wp2_with fail
  go_returns
  exact ⟨rfl, h2.out⟩
set_option maxHeartbeats 1600000 in
set_option maxRecDepth 100000 in
theorem verify_ok (i t q : ByteArray) (w : World) (hK : KIs w) (hq : sgOk q = true) (ht : t.size ≤ 1125899906842624) :
    Calls Tryz.prog 142 #[.string i, .string t, .string q] w fun e w' => e = .returned (.int .i64 (if idV (sgH q) (upV (recT (sgN q) t (sgO q)) (sgN q) (sgB q) (sgH q)) = i then 0 else 9)) ∧ Below w.heap.size w w' := by
  have hP := parse_any q w
  have hnot : ∀ (x : Bool) (w : World), (Op.unary .not (.bool x)).run Tryz.prog w = .ok (.bool (!x)) w := fun _ _ => rfl
  rw [parseV, if_pos hq] at hP
  obtain ⟨q1, q2, q3⟩ := (sgOk_iff q).1 hq
  have hp := pow2_lt (sgH q) q1
  have hS := fun w1 (hb : Below w.heap.size w w1) => sg_store w w1 (sgH q) (sgN q) (sgO q) (sgB q) hb
  have hR := fun w1 (hb : Below w.heap.size w w1) => recover_ok t (sgO q) (sgN q) w1 (hK.below hb hK.lt) (by omega) (sgO_size q hq) ht
  have hC := fun w1 (hb : Below w.heap.size w w1) => climb_any (recT (sgN q) t (sgO q)) (sgB q) (sgN q) (sgH q) w1 (hK.below hb hK.lt) (tagS_size _ _) (sgB_size q hq) q1 (by omega)
  have hI := fun w1 (hb : Below w.heap.size w w1) => id_any (sgH q) (upV (recT (sgN q) t (sgO q)) (sgN q) (sgB q) (sgH q)) w1 (hK.below hb hK.lt) (by omega) (upV_size _ _ _ (tagS_size _ _) _)
  unfold sgV at hP
  generalize idV (sgH q) (upV (recT (sgN q) t (sgO q)) (sgN q) (sgB q) (sgH q)) = y at hI ⊢
  generalize upV (recT (sgN q) t (sgO q)) (sgN q) (sgB q) (sgH q) = x at hC hI
  generalize recT (sgN q) t (sgO q) = r at hR hC
  generalize (sgH q : Int) = H at hP hS hI
  generalize (sgN q : Int) = N at hP hS hR hC
  generalize sgO q = o at hP hS hR
  generalize sgB q = b at hP hS hC
  replace hS := Box.mk hS
  replace hR := Box.mk hR
  replace hC := Box.mk hC
  replace hI := Box.mk hI
  clear hq hK ht q1 q2 q3 hp
  go_enter Tryz.func142, Tryz.ntmps142
  go_wp2_with fail
  refine hP.mono ?_
  clear hP
  rintro e w1 ⟨rfl, hb1⟩
  obtain ⟨h1, h2⟩ := hS.out w1 hb1
  have hF := hR.out _ h2
  obtain ⟨w2, hw2⟩ : ∃ w2, w1.alloc (.cells #[.int .i64 H, .int .i64 N, .string o, .string b] 181) = w2 := ⟨_, rfl⟩
  rw [hw2] at h1 h2 hF
  have c1 := h1.cell 1
  have c2 := h1.cell 2
  simp only [scells, List.getElem?_cons_zero, List.getElem?_cons_succ] at c1 c2
  obtain ⟨B, hBe⟩ : ∃ B, w1.heap.size = B := ⟨_, rfl⟩
  rw [hBe] at h1 c1 c2
  replace h1 := Box.mk h1
  replace h2 := Box.mk h2
  clear hS hb1 hR
  go_wp2_with fail
  refine hF.mono ?_
  clear hF
  rintro e w3 ⟨rfl, hb3⟩
  have hB3 : Below w.heap.size w w3 := mono_bel h2.out hb3 (Nat.le_refl _)
  have hD3 := h1.out.below hb3 h1.out.lt
  have d0 : w3.drew.cell? ⟨B, 0, none⟩ = some (.int .i64 H) := hD3.cell 0
  have d1 : w3.drew.cell? ⟨B, 1, none⟩ = some (.int .i64 N) := hD3.cell 1
  have d3 : w3.drew.cell? ⟨B, 3, none⟩ = some (.string b) := hD3.cell 3
  have hBd := hB3.trans ((dB w3).mono hB3.size)
  have hF := hC.out _ hBd
  replace hD3 := Box.mk (show Blk w3.drew B (scells H N o b) _ from hD3)
  replace hBd := Box.mk hBd
  clear h1 h2 hb3 hB3 hC c1 c2
  go_wp2_with fail
  refine region_go (C := fun w' => w'.cell? ⟨B, 0, none⟩ = some (.int .i64 H) ∧ w'.cell? ⟨B, 1, none⟩ = some (.int .i64 N) ∧ w'.cell? ⟨B, 3, none⟩ = some (.string b)) rfl ?_
  refine go_calms [0, 1, 2, 3, 4, 5, 6, 9] 3 rfl (by kernel_rfl) (by kernel_rfl) (by kernel_rfl) ⟨d0, d1, d3⟩ ?_
  simp [nth]
  try simp only [Act.put]
  refine quiet_any rfl (.pointer (some ⟨B, 0, none⟩)) (fun w' hw' => by have h := hw'.1; go_simp) ?_
  simp only [Act.put, List.setIfInBounds_toArray, List.set_cons_succ, List.set_cons_zero]
  refine quiet_any rfl (.int .i64 H) (fun w' hw' => by have h := hw'.1; go_simp) ?_
  simp only [Act.put, List.setIfInBounds_toArray, List.set_cons_succ, List.set_cons_zero]
  repeat (go_big_quiet_step (first | exact fun _ => rfl | rfl))
  refine quiet_any rfl (.pointer (some ⟨B, 1, none⟩)) (fun w' hw' => by have h := hw'.2.1; go_simp) ?_
  simp only [Act.put, List.setIfInBounds_toArray, List.set_cons_succ, List.set_cons_zero]
  refine quiet_any rfl (.int .i64 N) (fun w' hw' => by have h := hw'.2.1; go_simp) ?_
  simp only [Act.put, List.setIfInBounds_toArray, List.set_cons_succ, List.set_cons_zero]
  refine quiet_any rfl (.pointer (some ⟨B, 3, none⟩)) (fun w' hw' => by have h := hw'.2.2; go_simp) ?_
  simp only [Act.put, List.setIfInBounds_toArray, List.set_cons_succ, List.set_cons_zero]
  refine quiet_any rfl (.string b) (fun w' hw' => by have h := hw'.2.2; go_simp) ?_
  simp only [Act.put, List.setIfInBounds_toArray, List.set_cons_succ, List.set_cons_zero]
  repeat (go_big_quiet_step (first | exact fun _ => rfl | rfl))
  refine wpQuiet_nil ?_
  refine go_forced 7 (by kernel_rfl) (goOp_wp 7 rfl rfl (fun K hK => ?_))
  go_simp
  refine hF.mono ?_
  clear hF
  rintro e w4 ⟨rfl, hb4⟩
  have hB4 := hBd.out.trans (hb4.mono hBd.out.size)
  have hD4 := hD3.out.below hb4 hD3.out.lt
  refine hK _ _ ⟨hD4.cell 0, hD4.cell 1, hD4.cell 3⟩ ?_
  have hF := hI.out _ hB4
  replace hB4 := Box.mk hB4
  replace hD4 := Box.mk hD4
  clear hK K hb4 hD3 hBd hI d0 d1 d3
  refine go_forced 8 (by kernel_rfl) (goOp_wp 8 rfl rfl (fun K hK => ?_))
  go_simp
  refine hF.mono ?_
  clear hF
  rintro e w5 ⟨rfl, hb5⟩
  have hB5 := hB4.out.trans (hb5.mono hB4.out.size)
  have hD5 := hD4.out.below hb5 hD4.out.lt
  have C5 : w5.cell? ⟨B, 0, none⟩ = some (.int .i64 H) ∧ w5.cell? ⟨B, 1, none⟩ = some (.int .i64 N) ∧ w5.cell? ⟨B, 3, none⟩ = some (.string b) := ⟨hD5.cell 0, hD5.cell 1, hD5.cell 3⟩
  refine hK _ _ C5 ?_
  replace hB5 := Box.mk hB5
  clear hK K hb5 hD4 hB4 hD5
  by_cases he : y = i
  · subst he
    refine go_calms [10] 0 rfl (by kernel_rfl) (by kernel_rfl) (by kernel_rfl) C5 ?_
    simp [nth]
    try simp only [Act.put, List.setIfInBounds_toArray, List.set_cons_succ, List.set_cons_zero]
    refine quiet_any rfl (.bool false) (fun w' hw' => by go_simp) ?_
    simp only [Act.put, List.setIfInBounds_toArray, List.set_cons_succ, List.set_cons_zero]
    refine wpQuiet_nil ?_
    refine go_done (by kernel_rfl) ?_
    go_simp
    go_wp2_with fail
    go_returns
    exact ⟨by simp, hB5.out⟩
  · have he2 := txt_ne he
    refine go_calms [10] 0 rfl (by kernel_rfl) (by kernel_rfl) (by kernel_rfl) C5 ?_
    simp [nth]
    try simp only [Act.put, List.setIfInBounds_toArray, List.set_cons_succ, List.set_cons_zero]
    refine quiet_any rfl (.bool true) (fun w' hw' => by go_simp) ?_
    simp only [Act.put, List.setIfInBounds_toArray, List.set_cons_succ, List.set_cons_zero]
    refine wpQuiet_nil ?_
    refine go_done (by kernel_rfl) ?_
    go_simp
    go_wp2_with fail
    go_returns
    exact ⟨by simp, hB5.out⟩
theorem verify_any (i t q : ByteArray) (w : World) (hK : KIs w) (ht : t.size ≤ 1125899906842624) :
    Calls Tryz.prog 142 #[.string i, .string t, .string q] w fun e w' => e = .returned (.int .i64 (verE i t q)) ∧ Below w.heap.size w w' := by
  unfold verE
  cases hq : sgOk q with
  | true => simpa using verify_ok i t q w hK hq ht
  | false => simpa using verify_no i t q w hq
theorem info_s : (Tryz.prog.info? 9).map (fun i => (i.zero, i.size, i.bytes)) = some (some (.string ⟨#[]⟩), 1, 16) := by kernel_rfl
end Go.Proofs.YtiblkfkeifnpaaaGreatDoor

namespace Go.Proofs.YtiblkfkeifnpaaaGreatDoor
open Go Go.RowKit

end Go.Proofs.YtiblkfkeifnpaaaGreatDoor

namespace Go.Proofs.YtiblkfkeifnpaaaGreatDoor
open Go Go.RowKit

end Go.Proofs.YtiblkfkeifnpaaaGreatDoor

namespace Go.Proofs.YtiblkfkeifnpaaaGreatDoor
open Go Go.RowKit

end Go.Proofs.YtiblkfkeifnpaaaGreatDoor

namespace Go.Proofs.YtiblkfkeifnpaaaGreatDoor
open Go Go.RowKit

end Go.Proofs.YtiblkfkeifnpaaaGreatDoor

namespace Go.Proofs.YtiblkfkeifnpaaaGreatDoor
open Go Go.RowKit

end Go.Proofs.YtiblkfkeifnpaaaGreatDoor
