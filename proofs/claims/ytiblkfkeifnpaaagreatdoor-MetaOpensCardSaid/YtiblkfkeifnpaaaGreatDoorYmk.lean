/- Verify: over, idOf, climb, parse, Number, Verify; small facts on worlds. | Walks of the document's Number, id and Verify of layer 6. | Walk of the document's Verify of layer 6. | The document's key in memory; its New. | The document's key: ID, Left, Skip. | The document's key: At, Sign. -/
import Derived.Laws.MakeOwn
import Derived.Deep.Cut
import Derived.Test.YtiblkfkeifnpaaaGreatDoorYre
import Derived.Test.YtiblkfkeifnpaaaGreatDoorYpk
import Derived.Test.YtiblkfkeifnpaaaGreatDoorYop
import Derived.Test.YtiblkfkeifnpaaaGreatDoorYa5
import Derived.Test.YtiblkfkeifnpaaaGreatDoorYos
import Derived.Test.YtiblkfkeifnpaaaGreatDoorYkr
set_option linter.all false
namespace Go.Proofs.YtiblkfkeifnpaaaGreatDoor
open Go Go.RowKit

theorem chg0 {S : Nat → Prop} {w w' : World} (h : Below w.heap.size w w') : Pk.Chg S w w' := (Pk.Chg.of_below h).mono fun i hi e => absurd hi (by omega)
theorem dB (w : World) : Below w.heap.size w w.drew := Drawn.below ⟨1, rfl⟩
theorem mono_bel {B : Nat} {w w1 w2 : World} (h : Below B w w1) (k : Below w1.heap.size w1 w2) (hB : B ≤ w.heap.size) : Below B w w2 := h.trans (k.mono (Nat.le_trans hB h.size))

theorem pow_le (h : Nat) (hh : h ≤ 4) : 2 ^ h ≤ 16 := Nat.le_trans (Nat.pow_le_pow_right (by omega) hh) (by decide)
theorem tag2_len (k : UInt8) (a b : ByteArray) (ha : a.size ≤ 1000) (hb : b.size ≤ 1000) : (tagL k [a, b]).length ≤ 100000 := by
  simp only [tagL, tagP, List.flatMap_cons, List.flatMap_nil, List.length_cons, List.length_append, data_len, be4_length, List.length_nil]
  omega
set_option maxHeartbeats 800000 in
set_option maxRecDepth 100000 in
theorem over_any (a b : ByteArray) (w : World) (hK : KIs w) (ha : a.size = 32) (hb : b.size = 32) :
    Calls Tryz.prog 179 #[.string a, .string b] w fun e w' => e = .returned (.string (nodeV a b)) ∧ Below w.heap.size w w' := by
  have hsz := tag2_len 37 a b (by omega) (by omega)
  have hF := stagB_parts 37 (.slice (some ⟨w.heap.size, 0, none⟩) 2 2) [a, b] (w.alloc (.cells #[.string a, .string b] 9)) (parts_new w [a, b] 9) (hK.below ((Below.refl _ _).alloc (Nat.le_refl _) _) hK.lt) (by omega) (by simp)
  rw [show hashOf (tagL 37 [a, b]) = nodeV a b from rfl] at hF
  have hB : Box (Below w.heap.size w (w.alloc (.cells #[.string a, .string b] 9))) := ⟨(Below.refl _ _).alloc (Nat.le_refl _) _⟩
  obtain ⟨y, hy⟩ : ∃ y, nodeV a b = y := ⟨_, rfl⟩
  rw [hy] at hF ⊢
  clear hsz hK hy
  go_enter Tryz.func179, Tryz.ntmps179
  go_wp2_with fail
  refine hF.mono ?_
  rintro e w3 ⟨rfl, hb3⟩
  clear hF
  have hB3 : Box (Below w.heap.size w w3) := ⟨hB.out.trans (hb3.mono (by simp))⟩
  clear hb3
  go_wp2_with fail
  go_ret
  exact ⟨rfl, hB3.out⟩
set_option maxHeartbeats 800000 in
set_option maxRecDepth 100000 in
theorem id_any (h : Nat) (t : ByteArray) (w : World) (hK : KIs w) (hh : h ≤ 255) (ht : t.size = 32) :
    Calls Tryz.prog 160 #[.int .i64 (h : Int), .string t] w fun e w' => e = .returned (.string (idV h t)) ∧ Below w.heap.size w w' := by
  have h1 : (by1 h).size = 1 := rfl
  have hsz := tag2_len 38 (by1 h) t (by omega) (by omega)
  have hN : ((UInt8.ofNat h).toNat : Int) = (h : Int) := by rw [UInt8.toNat_ofNat']; omega
  have hcv := one_text w (UInt8.ofNat h)
  have hF := stagB_parts 38 (.slice (some ⟨w.heap.size + 1, 0, none⟩) 2 2) [by1 h, t] ((w.alloc (.cells #[Value.int .u8 ((UInt8.ofNat h).toNat : Int)] 5)).alloc (.cells #[.string (by1 h), .string t] 9))
    (by have := parts_new (w.alloc (.cells #[Value.int .u8 ((UInt8.ofNat h).toNat : Int)] 5)) [by1 h, t] 9; rwa [show (w.alloc (.cells #[Value.int .u8 ((UInt8.ofNat h).toNat : Int)] 5)).heap.size = w.heap.size + 1 by simp] at this)
    (hK.below (((Below.refl _ _).alloc (Nat.le_refl _) _).alloc (by simp) _) hK.lt) (by omega) (by simp)
  rw [show hashOf (tagL 38 [by1 h, t]) = idV h t from rfl] at hF
  have hB : Box (Below w.heap.size w ((w.alloc (.cells #[Value.int .u8 ((UInt8.ofNat h).toNat : Int)] 5)).alloc (.cells #[.string (by1 h), .string t] 9))) := ⟨((Below.refl _ _).alloc (Nat.le_refl _) _).alloc (by simp) _⟩
  obtain ⟨y, hy⟩ : ∃ y, idV h t = y := ⟨_, rfl⟩
  rw [hy] at hF ⊢
  rw [show one (UInt8.ofNat h) = by1 h from rfl] at hcv
  obtain ⟨x, hx⟩ : ∃ x, by1 h = x := ⟨_, rfl⟩
  rw [hx] at hF hcv hB
  rw [hN] at hF hcv hB
  clear hsz hK hy hx h1 hN
  go_enter Tryz.func160, Tryz.ntmps160
  go_wp2_with fail
  refine hF.mono ?_
  rintro e w3 ⟨rfl, hb3⟩
  clear hF
  have hB3 : Box (Below w.heap.size w w3) := ⟨hB.out.trans (hb3.mono (by simp; omega))⟩
  clear hb3
  go_wp2_with fail
  go_ret
  exact ⟨rfl, hB3.out⟩

theorem ext_ext (q : ByteArray) (a b c d : Nat) (hd : a + d ≤ b) : (q.extract a b).extract c d = q.extract (a + c) (a + d) := by
  apply ByteArray.ext
  simp only [ByteArray.data_extract, Array.extract_extract]
  rw [show min (a + d) b = a + d by omega]

theorem txt_nil {s : ByteArray} (h : s.size = 0) : s.toList.isEmpty = true := by
  rw [ByteArray.toList_eq]
  have : s.data.toList.length = 0 := by rw [data_len]; exact h
  rw [List.eq_nil_of_length_eq_zero this]; rfl
theorem txt_cons {s : ByteArray} (h : s.size ≠ 0) : s.toList.isEmpty = false := by
  rw [ByteArray.toList_eq]
  have : s.data.toList.length ≠ 0 := by rw [data_len]; exact h
  cases hs : s.data.toList with
  | nil => rw [hs] at this; exact absurd rfl this
  | cons x l => rfl
set_option maxHeartbeats 1600000 in
set_option maxRecDepth 100000 in
theorem climb_any (leaf q : ByteArray) (n h : Nat) (w : World) (hK : KIs w) (hl : leaf.size = 32) (hq : q.size = 32 * h) (hh : h ≤ 4) (hn : n < 65536) :
    Calls Tryz.prog 161 #[.string leaf, .int .i64 (n : Int), .string q] w fun e w' => e = .returned (.string (upV leaf n q h)) ∧ Below w.heap.size w w' := by
  have hB0 : Box (Below w.heap.size w w) := ⟨Below.refl _ _⟩
  have hq0 : q = q.extract (32 * 0) q.size := by rw [Nat.mul_zero]; exact (ByteArray.extract_zero_size).symm
  have hKB := Box.mk hK
  replace hq0 := Box.mk hq0
  clear hK
  go_enter Tryz.func161, Tryz.ntmps161
  go_wp2_with fail
  go_loopw [1, 2, 7] (fun v1 v2 v7 wr => ∃ j m : Nat, ∃ z x : ByteArray, j ≤ h ∧ v1 = .int .i64 (m : Int) ∧ v2 = .string z ∧ v7 = .string x ∧ Box (n / 2 ^ j = m) ∧ Box (z = q.extract (32 * j) q.size) ∧ Box (x = upV leaf n q j) ∧ Box (Below w.heap.size w wr)) (fun _ v2 _ _ => match v2 with | .string z => z.size | _ => 0)
  case atStart => exact ⟨0, n, q, leaf, by omega, rfl, rfl, rfl, ⟨by simp⟩, hq0, ⟨rfl⟩, hB0⟩
  case round =>
    clear hB0
    obtain ⟨j, m, z, x, hj, rfl, rfl, rfl, hm, hz, hx, hB⟩ := hrel
    have hzs : z.size = 32 * (h - j) := by rw [hz.out, ByteArray.size_extract, hq]; omega
    by_cases hlt : j < h
    · have he : z.toList.isEmpty = false := txt_cons (by omega)
      have hz1 : z.extract 0 32 = q.extract (32 * j) (32 * j + 32) := by rw [hz.out, ext_ext _ _ _ _ _ (by omega)]; rfl
      have hz2 : z.extract 32 (32 * (h - j)) = q.extract (32 * (j + 1)) q.size := by
        rw [hz.out, ext_ext _ _ _ _ _ (by omega)]
        congr 1
        omega
      have hos : (z.extract 0 32).size = 32 := by rw [ByteArray.size_extract]; omega
      obtain ⟨o, ho⟩ : ∃ o, z.extract 0 32 = o := ⟨_, rfl⟩
      obtain ⟨r, hr⟩ : ∃ r, z.extract 32 (32 * (h - j)) = r := ⟨_, rfl⟩
      have hxs : x.size = 32 := by rw [hx.out]; exact upV_size leaf n q hl j
      have hmb : m < 65536 := by rw [← hm.out]; exact Nat.lt_of_le_of_lt (Nat.div_le_self _ _) hn
      have hup : upV leaf n q (j + 1) = if m % 2 = 0 then nodeV x o else nodeV o x := by rw [upV, hm.out, ← hz1, ← hx.out, ho]
      have hm2 : n / 2 ^ (j + 1) = m / 2 := by rw [Nat.pow_succ, ← Nat.div_div_eq_div_mul, hm.out]
      have hrs : r.size < z.size := by rw [← hr, ByteArray.size_extract]; omega
      have hF1 := over_any x o wr (hKB.out.below hB.out hKB.out.lt) hxs (by rw [← ho]; exact hos)
      have hF2 := over_any o x wr (hKB.out.below hB.out hKB.out.lt) (by rw [← ho]; exact hos) hxs
      rw [hr] at hz2
      replace hup := Box.mk hup
      replace hz1 := Box.mk hz1
      replace hz2 := Box.mk hz2
      replace hm2 := Box.mk hm2
      replace hrs := Box.mk hrs
      by_cases h2 : m % 2 = 0
      · have e2 : (m : Int) % 2 = 0 := by omega
        go_wp2_with fail
        refine hF1.mono ?_
        rintro e w1 ⟨rfl, hb1⟩
        have hB1 : Box (Below w.heap.size w w1) := ⟨mono_bel hB.out hb1 (Nat.le_refl _)⟩
        clear hF1 hF2 hb1
        go_wp2_with fail
        refine ⟨⟨j + 1, m / 2, r, _, by omega, u_eq (by omega), rfl, rfl, ⟨hm2.out⟩, hz2, ⟨?_⟩, hB1⟩, hrs.out⟩
        rw [hup.out, if_pos h2]
      · have e2 : ((m : Int) % 2 == 0) = false := by simp; omega
        have e3 : ¬ ((m : Int) % 2 = 0) := by omega
        go_wp2_with fail
        refine hF2.mono ?_
        rintro e w1 ⟨rfl, hb1⟩
        have hB1 : Box (Below w.heap.size w w1) := ⟨mono_bel hB.out hb1 (Nat.le_refl _)⟩
        clear hF1 hF2 hb1
        go_wp2_with fail
        refine ⟨⟨j + 1, m / 2, r, _, by omega, u_eq (by omega), rfl, rfl, ⟨hm2.out⟩, hz2, ⟨?_⟩, hB1⟩, hrs.out⟩
        rw [hup.out, if_neg h2]
    · obtain rfl : j = h := by omega
      have he : z.toList.isEmpty = true := txt_nil (by omega)
      go_wp2_with fail
      go_ret
      exact ⟨by rw [hx.out]; rfl, hB.out⟩

/-- What parse's readings of any bytes come to. -/
structure Parsed (l : List UInt8) where
  h : Int
  n : Int
  o : List UInt8
  b : List UInt8
  e : Int
def readAll (l : List UInt8) : Parsed l :=
  let r1 := Pk.numR 1 l 0
  let r2 := Pk.numR 2 r1.2.1 r1.2.2
  let r3 := Pk.rawR 288 r2.2.1 r2.2.2
  let r4 := Pk.rawR (r1.1 * 32) r3.2.1 r3.2.2
  ⟨r1.1, r2.1, r3.1, r4.1, Pk.endE r4.2.1 r4.2.2⟩
theorem num_err (k : Nat) (l : List UInt8) (e : Int) (he : e ≠ 0) : Pk.numR k l e = (0, l, e) := by rw [Pk.numR, if_pos he]
theorem raw_err (n : Int) (l : List UInt8) (e : Int) (he : e ≠ 0) : Pk.rawR n l e = ([], l, e) := by rw [Pk.rawR, if_pos he]
theorem end_err (l : List UInt8) (e : Int) (he : e ≠ 0) : Pk.endE l e = e := by
  unfold Pk.endE Pk.failE
  rw [if_neg he]
  split <;> rfl
theorem num_ok (k : Nat) (l : List UInt8) (hk : k ≤ 2) (hl : k ≤ l.length) : Pk.numR k l 0 = ((Pk.numL (l.take k) : Int), l.drop k, 0) := by
  have h1 := Pk.numL_lt k (l.take k) (by rw [List.length_take]; omega)
  have h2 : (256 : Nat) ^ k ≤ 256 ^ 2 := Nat.pow_le_pow_right (by omega) hk
  rw [Pk.numR, if_neg (by simp), if_neg (by omega), if_neg (by omega)]
theorem num_short (k : Nat) (l : List UInt8) (hl : l.length < k) : Pk.numR k l 0 = (0, l, 2) := by rw [Pk.numR, if_neg (by simp), if_pos hl]
theorem raw_ok (n : Nat) (l : List UInt8) (hl : n ≤ l.length) : Pk.rawR (n : Int) l 0 = (l.take n, l.drop n, 0) := by
  rw [Pk.rawR, if_neg (by simp), if_neg (by omega), if_neg (by omega)]; rfl
theorem raw_short (n : Nat) (l : List UInt8) (hl : l.length < n) : Pk.rawR (n : Int) l 0 = ([], l, 2) := by
  rw [Pk.rawR, if_neg (by simp), if_neg (by omega), if_pos (by omega)]
theorem numL_1 (q : ByteArray) (h : 1 ≤ q.size) : Pk.numL (q.data.toList.take 1) = sgH q := by
  obtain ⟨l, hl⟩ : ∃ l, q.data.toList = l := ⟨_, rfl⟩
  have hlen : l.length = q.size := by rw [← hl]; exact data_len q
  rw [sgH, hl]
  match l, hlen with
  | [], h0 => simp at h0; omega
  | x :: l, _ => simp [Pk.numL]
theorem numL_2 (q : ByteArray) (h : 3 ≤ q.size) : Pk.numL ((q.data.toList.drop 1).take 2) = sgN q := by
  obtain ⟨l, hl⟩ : ∃ l, q.data.toList = l := ⟨_, rfl⟩
  have hlen : l.length = q.size := by rw [← hl]; exact data_len q
  rw [sgN, hl]
  match l, hlen with
  | [], h0 => simp at h0; omega
  | [x], h0 => simp at h0; omega
  | [x, y], h0 => simp at h0; omega
  | x :: y :: z :: l, _ => simp [Pk.numL]
theorem sgH_lt (q : ByteArray) : sgH q < 256 := (q.data.toList.getD 0 0).toNat_lt
theorem sgN_lt (q : ByteArray) : sgN q < 65536 := by
  have h1 := (q.data.toList.getD 1 0).toNat_lt
  have h2 := (q.data.toList.getD 2 0).toNat_lt
  unfold sgN; omega
/-- A signature's bytes are read as what they say. -/
theorem read_ok (q : ByteArray) (h : sgOk q = true) : readAll q.data.toList = ⟨(sgH q : Int), (sgN q : Int), (sgO q).data.toList, (sgB q).data.toList, 0⟩ := by
  obtain ⟨h1, h2, h3⟩ := (sgOk_iff q).1 h
  have hlen : q.data.toList.length = q.size := data_len q
  have e1 := num_ok 1 q.data.toList (by omega) (by omega)
  have e2 := num_ok 2 (q.data.toList.drop 1) (by omega) (by rw [List.length_drop]; omega)
  rw [numL_1 q (by omega)] at e1
  rw [numL_2 q (by omega), List.drop_drop] at e2
  have e3 := raw_ok 288 (q.data.toList.drop 3) (by rw [List.length_drop]; omega)
  rw [List.drop_drop] at e3
  have e4 := raw_ok (sgH q * 32) (q.data.toList.drop 291) (by rw [List.length_drop]; omega)
  have hO : (sgO q).data.toList = (q.data.toList.drop 3).take 288 := by
    rw [sgO, ByteArray.data_extract, Array.toList_extract, List.extract_eq_take_drop]
  have hB : (sgB q).data.toList = (q.data.toList.drop 291).take (sgH q * 32) := by
    rw [sgB, ByteArray.data_extract, Array.toList_extract, List.extract_eq_take_drop, show q.size - 291 = sgH q * 32 by omega]
  have hend : (q.data.toList.drop 291).drop (sgH q * 32) = [] := by
    rw [List.drop_drop]; exact List.drop_eq_nil_of_le (by omega)
  unfold readAll
  rw [show ((288 : Int)) = ((288 : Nat) : Int) from rfl]
  simp only [e1, e2, e3, show (1 + 2 : Nat) = 3 from rfl, show (3 + 288 : Nat) = 291 from rfl]
  rw [show ((sgH q : Int) * 32) = ((sgH q * 32 : Nat) : Int) by omega]
  simp only [e4, hO, hB, hend]
  rfl
/-- Other bytes are read with an error, or say a height or a number that may not be. -/
theorem read_no (q : ByteArray) (h : sgOk q = false) : (readAll q.data.toList).e ≠ 0 ∨ (readAll q.data.toList).e = 0 ∧ 4 < (readAll q.data.toList).h ∨ ∃ H N : Nat, (readAll q.data.toList).e = 0 ∧ (readAll q.data.toList).h = (H : Int) ∧ H ≤ 4 ∧ (readAll q.data.toList).n = (N : Int) ∧ 2 ^ H ≤ N := by
  have hlen : q.data.toList.length = q.size := data_len q
  have hno : ¬ (sgH q ≤ 4 ∧ q.size = 291 + 32 * sgH q ∧ sgN q < 2 ^ sgH q) := fun hh => by rw [(sgOk_iff q).2 hh] at h; cases h
  have h2n : (2 : Int) ≠ 0 := by decide
  unfold readAll
  by_cases c1 : q.size < 1
  · left
    have e1 := num_short 1 q.data.toList (by omega)
    simp only [e1, num_err _ _ _ h2n, raw_err _ _ _ h2n, end_err _ _ h2n]
    exact h2n
  have e1 := num_ok 1 q.data.toList (by omega) (by omega)
  rw [numL_1 q (by omega)] at e1
  by_cases c2 : q.size < 3
  · left
    have e2 := num_short 2 (q.data.toList.drop 1) (by rw [List.length_drop]; omega)
    simp only [e1, e2, raw_err _ _ _ h2n, end_err _ _ h2n]
    exact h2n
  have e2 := num_ok 2 (q.data.toList.drop 1) (by omega) (by rw [List.length_drop]; omega)
  rw [numL_2 q (by omega), List.drop_drop] at e2
  by_cases c3 : q.size < 291
  · left
    have e3 := raw_short 288 (q.data.toList.drop 3) (by rw [List.length_drop]; omega)
    rw [show ((288 : Int)) = ((288 : Nat) : Int) from rfl]
    simp only [e1, e2, show (1 + 2 : Nat) = 3 from rfl, e3, raw_err _ _ _ h2n, end_err _ _ h2n]
    exact h2n
  have e3 := raw_ok 288 (q.data.toList.drop 3) (by rw [List.length_drop]; omega)
  rw [List.drop_drop] at e3
  rw [show ((288 : Int)) = ((288 : Nat) : Int) from rfl]
  simp only [e1, e2, show (1 + 2 : Nat) = 3 from rfl, e3, show (3 + 288 : Nat) = 291 from rfl]
  rw [show ((sgH q : Int) * 32) = ((sgH q * 32 : Nat) : Int) by omega]
  by_cases c4 : q.size < 291 + sgH q * 32
  · left
    have e4 := raw_short (sgH q * 32) (q.data.toList.drop 291) (by rw [List.length_drop]; omega)
    simp only [e4, end_err _ _ h2n]
    exact h2n
  have e4 := raw_ok (sgH q * 32) (q.data.toList.drop 291) (by rw [List.length_drop]; omega)
  simp only [e4]
  by_cases c5 : 0 < ((q.data.toList.drop 291).drop (sgH q * 32)).length
  · left
    rw [Pk.endE, if_pos c5]
    decide
  have c6 : q.size = 291 + 32 * sgH q := by rw [List.length_drop, List.length_drop] at c5; omega
  rw [Pk.endE, if_neg c5]
  right
  by_cases c7 : sgH q ≤ 4
  · right
    exact ⟨sgH q, sgN q, rfl, rfl, c7, rfl, by omega⟩
  · left
    exact ⟨rfl, by omega⟩
set_option maxHeartbeats 400000 in
theorem read_new (s : ByteArray) (w : World) :
    Calls Tryz.prog 43 #[.string s] w fun e w' => e = .returned (.pointer (some ⟨w.heap.size, 0, none⟩)) ∧ w' = w.alloc (.cells #[.string s, .int .i64 0] 119) := by
  go_enter Tryz.func43, Tryz.ntmps43
  go_wp2_with fail
  go_ret
  exact ⟨rfl, rfl⟩
/-- What a signature's bytes are parsed to. -/
def sgV (h n : Int) (o b : ByteArray) : Value := .agg #[.int .i64 h, .int .i64 n, .string o, .string b]
def scells (h n : Int) (o b : ByteArray) : List Value := [.int .i64 h, .int .i64 n, .string o, .string b]

def parseV (q : ByteArray) : Value := if sgOk q then .tuple #[sgV (sgH q) (sgN q) (sgO q) (sgB q), .bool true] else .tuple #[sgV 0 0 ⟨#[]⟩ ⟨#[]⟩, .bool false]
theorem num1_range (l : List UInt8) : 0 ≤ (Pk.numR 1 l 0).1 ∧ (Pk.numR 1 l 0).1 ≤ 255 := by
  by_cases h : l.length < 1
  · rw [num_short 1 l h]; exact ⟨by simp, by simp⟩
  · rw [num_ok 1 l (by omega) (by omega)]
    have := Pk.numL_lt 1 (l.take 1) (by rw [List.length_take]; omega)
    exact ⟨by simp, by simp; omega⟩
/-- What parse has in memory: what it will answer, what it has read, the reader. -/
structure PSt (w0 w : World) (cs : List Value) (l : List UInt8) (e : Int) : Prop where
  res : Blk w w0.heap.size (scells 0 0 ⟨#[]⟩ ⟨#[]⟩) 181
  sv : Blk w (w0.heap.size + 2) cs 181
  rd : Pk.RAt w (w0.heap.size + 1) 119 l e
  bel : Below w0.heap.size w0 w
theorem PSt.reader {w0 w w' : World} {cs : List Value} {l l2 : List UInt8} {e e2 : Int} (h : PSt w0 w cs l e) (hN : Pk.RNext w (w0.heap.size + 1) 119 l2 e2 w') : PSt w0 w' cs l2 e2 :=
  ⟨hN.chg.blk h.res (by omega), hN.chg.blk h.sv (by omega), hN.at_, h.bel.trans (hN.chg.below h.bel.size (fun i hi => by omega))⟩
theorem PSt.put {w0 w : World} {cs : List Value} {l : List UInt8} {e : Int} (h : PSt w0 w cs l e) (i : Nat) (v : Value) : PSt w0 (w.setCell ⟨w0.heap.size + 2, i, none⟩ v) (cs.set i v) l e :=
  ⟨h.res.setCell_other _ _ (by simp), h.sv.setCell i v, Blk.setCell_other (show Blk w _ _ _ from h.rd) _ _ (by simp), h.bel.setCell (by simp) _⟩
set_option maxHeartbeats 3200000 in
set_option maxRecDepth 100000 in
theorem parse_any (q : ByteArray) (w : World) :
    Calls Tryz.prog 158 #[.string q] w fun e w' => e = .returned (parseV q) ∧ Below w.heap.size w w' := by
  have hrg := num1_range q.data.toList
  have hcase : sgOk q = true ∧ (readAll q.data.toList) = ⟨(sgH q : Int), (sgN q : Int), (sgO q).data.toList, (sgB q).data.toList, 0⟩ ∨ sgOk q = false ∧ ((readAll q.data.toList).e ≠ 0 ∨ (readAll q.data.toList).e = 0 ∧ 4 < (readAll q.data.toList).h ∨ ∃ H N : Nat, (readAll q.data.toList).e = 0 ∧ (readAll q.data.toList).h = (H : Int) ∧ H ≤ 4 ∧ (readAll q.data.toList).n = (N : Int) ∧ 2 ^ H ≤ N) := by
    cases hq : sgOk q with
    | true => exact .inl ⟨rfl, read_ok q hq⟩
    | false => exact .inr ⟨rfl, read_no q hq⟩
  obtain ⟨w1, hw1⟩ : ∃ w1, w.alloc (.cells #[.int .i64 0, .int .i64 0, .string ⟨#[]⟩, .string ⟨#[]⟩] 181) = w1 := ⟨_, rfl⟩
  have hz1 : w1.heap.size = w.heap.size + 1 := by rw [← hw1]; simp
  obtain ⟨w2, hw2⟩ : ∃ w2, w1.alloc (.cells #[.string q, .int .i64 0] 119) = w2 := ⟨_, rfl⟩
  have hz2 : w2.heap.size = w.heap.size + 2 := by rw [← hw2]; simp; omega
  obtain ⟨w3, hw3⟩ : ∃ w3, w2.alloc (.cells #[.int .i64 0, .int .i64 0, .string ⟨#[]⟩, .string ⟨#[]⟩] 181) = w3 := ⟨_, rfl⟩
  have hRd := read_new q w1
  rw [hz1, hw2] at hRd
  have hP : PSt w w3 (scells 0 0 ⟨#[]⟩ ⟨#[]⟩) q.data.toList 0 := by
    refine ⟨?_, ?_, ?_, ?_⟩
    · rw [← hw3, ← hw2, ← hw1]; exact ((Blk.new w _ _).alloc _).alloc _
    · rw [← hw3, ← hz2]; exact Blk.new w2 _ _
    · have h1 : Blk w2 w1.heap.size [.string q, .int .i64 0] 119 := by rw [← hw2]; exact Blk.new w1 _ _
      rw [hz1] at h1
      rw [← hw3]; exact h1.alloc _
    · rw [← hw3, ← hw2, ← hw1]; exact (((Below.refl _ _).alloc (Nat.le_refl _) _).alloc (by simp) _).alloc (by simp; omega) _
  have hF1 := Pk.rbyte_any (w.heap.size + 1) q.data.toList 0 w3 hP.rd
  obtain ⟨R, hR⟩ : ∃ R, readAll q.data.toList = R := ⟨_, rfl⟩
  rw [hR] at hcase
  simp only [readAll] at hR
  have hF2 := fun w' (h : Pk.RAt w' (w.heap.size + 1) 119 (Pk.numR 1 q.data.toList 0).2.1 (Pk.numR 1 q.data.toList 0).2.2) => Pk.rtwo_any (w.heap.size + 1) _ _ w' h
  generalize hx1 : Pk.numR 1 q.data.toList 0 = x1 at hF1 hF2 hR hrg
  have hF3 := fun w' (h : Pk.RAt w' (w.heap.size + 1) 119 (Pk.numR 2 x1.2.1 x1.2.2).2.1 (Pk.numR 2 x1.2.1 x1.2.2).2.2) => Pk.rraw_any (w.heap.size + 1) _ _ 288 w' h
  generalize hx2 : Pk.numR 2 x1.2.1 x1.2.2 = x2 at hF2 hF3 hR
  have hF4 := fun w' (h : Pk.RAt w' (w.heap.size + 1) 119 (Pk.rawR 288 x2.2.1 x2.2.2).2.1 (Pk.rawR 288 x2.2.1 x2.2.2).2.2) => Pk.rraw_any (w.heap.size + 1) _ _ (x1.1 * 32) w' h
  generalize hx3 : Pk.rawR 288 x2.2.1 x2.2.2 = x3 at hF3 hF4 hR
  have hF5 := fun w' (h : Pk.RAt w' (w.heap.size + 1) 119 (Pk.rawR (x1.1 * 32) x3.2.1 x3.2.2).2.1 (Pk.rawR (x1.1 * 32) x3.2.1 x3.2.2).2.2) => Pk.end_any (w.heap.size + 1) _ _ w' h
  generalize hx4 : Pk.rawR (x1.1 * 32) x3.2.1 x3.2.2 = x4 at hF4 hF5 hR
  generalize hx5 : Pk.endE x4.2.1 x4.2.2 = x5 at hF5 hR
  obtain ⟨hv, l1, e1⟩ := x1
  obtain ⟨nv, l2, e2⟩ := x2
  obtain ⟨ov, l3, e3⟩ := x3
  obtain ⟨bv, l4, e4⟩ := x4
  simp only at hF1 hF2 hF3 hF4 hF5 hR hrg
  subst hR
  simp only at hcase
  obtain ⟨o, ho⟩ : ∃ o, Pk.btx ov = o := ⟨_, rfl⟩
  obtain ⟨b, hb⟩ : ∃ b, Pk.btx bv = b := ⟨_, rfl⟩
  rw [ho] at hF3
  rw [hb] at hF4
  replace hF2 := Box.mk hF2
  replace hF3 := Box.mk hF3
  replace hF4 := Box.mk hF4
  replace hF5 := Box.mk hF5
  replace hcase := Box.mk hcase
  replace ho := Box.mk ho
  replace hb := Box.mk hb
  replace hP := Box.mk hP
  clear hx1 hx2 hx3 hx4 hx5
  go_enter Tryz.func158, Tryz.ntmps158
  go_wp2_with fail
  refine hRd.mono ?_
  rintro e w2' ⟨rfl, rfl⟩
  clear hRd
  go_wp2_with fail
  refine hF1.mono ?_
  clear hF1
  rintro e w4 ⟨rfl, hN⟩
  have p4 := hP.out.reader hN
  have c := p4.sv.cell 0
  have f := p4.sv.free 0
  have p5 := p4.put 0 (.int .i64 hv)
  have hF := hF2.out _ p5.rd
  replace p5 := Box.mk p5
  clear hP hN p4 hF2
  go_wp2_with fail
  refine hF.mono ?_
  clear hF c f
  rintro e w6 ⟨rfl, hN⟩
  have p6 := p5.out.reader hN
  have c := p6.sv.cell 1
  have f := p6.sv.free 1
  have p7 := p6.put 1 (.int .i64 nv)
  have hF := hF3.out _ p7.rd
  replace p7 := Box.mk p7
  clear hN p5 p6 hF3
  go_wp2_with fail
  refine hF.mono ?_
  clear hF c f
  rintro e w8 ⟨rfl, hN⟩
  have p8 := p7.out.reader hN
  have c := p8.sv.cell 2
  have f := p8.sv.free 2
  have p9 := p8.put 2 (.string o)
  have hF := hF4.out _ p9.rd
  have c0 : (w8.setCell ⟨w.heap.size + 2, 2, none⟩ (.string o)).cell? ⟨w.heap.size + 2, 0, none⟩ = some (.int .i64 hv) := p9.sv.cell 0
  replace p9 := Box.mk p9
  clear hN p7 p8 hF4
  go_wp2_with fail
  refine hF.mono ?_
  clear hF c f c0
  rintro e w10 ⟨rfl, hN⟩
  have p10 := p9.out.reader hN
  have c := p10.sv.cell 3
  have f := p10.sv.free 3
  have p11 := p10.put 3 (.string b)
  obtain ⟨w11, hw11⟩ : ∃ w11, w10.setCell ⟨w.heap.size + 2, 3, none⟩ (.string b) = w11 := ⟨_, rfl⟩
  rw [hw11] at p11
  have hF := hF5.out w11.drew p11.rd
  have hlst : (((((scells 0 0 ⟨#[]⟩ ⟨#[]⟩).set 0 (.int .i64 hv)).set 1 (.int .i64 nv)).set 2 (.string o)).set 3 (.string b)) = scells hv nv o b := rfl
  rw [hlst] at p11
  replace p11 := Box.mk p11
  clear hN p9 p10 hF5 hlst
  go_wp2_with fail
  have k0 : w11.drew.cell? ⟨w.heap.size + 2, 0, none⟩ = some (.int .i64 hv) := p11.out.sv.cell 0
  have k1 : w11.drew.cell? ⟨w.heap.size + 2, 1, none⟩ = some (.int .i64 nv) := p11.out.sv.cell 1
  refine region_go (C := fun w' => w'.cell? ⟨w.heap.size + 2, 0, none⟩ = some (.int .i64 hv) ∧ w'.cell? ⟨w.heap.size + 2, 1, none⟩ = some (.int .i64 nv)) rfl ?_
  refine go_calms [0] 15 rfl (by kernel_rfl) (by kernel_rfl) (by kernel_rfl) ⟨k0, k1⟩ ?_
  simp [nth]
  try simp only [Act.put]
  repeat (go_big_quiet_step (first | exact fun _ => rfl | rfl))
  refine wpQuiet_nil ?_
  refine go_forced 1 (by kernel_rfl) (goOp_wp 1 rfl rfl (fun K hK => ?_))
  go_simp
  refine hF.mono ?_
  clear hF
  rintro e w12 ⟨rfl, hN⟩
  have p12 := PSt.reader (w := w11.drew) ⟨p11.out.res, p11.out.sv, p11.out.rd, p11.out.bel.trans ((dB w11).mono p11.out.bel.size)⟩ hN
  have C2 : w12.cell? ⟨w.heap.size + 2, 0, none⟩ = some (.int .i64 hv) ∧ w12.cell? ⟨w.heap.size + 2, 1, none⟩ = some (.int .i64 nv) := ⟨p12.sv.cell 0, p12.sv.cell 1⟩
  refine hK _ _ C2 ?_
  replace p12 := Box.mk p12
  clear hK K hN p11
  have r0 := p12.out.res.cell 0
  have r1 := p12.out.res.cell 1
  have r2 := p12.out.res.cell 2
  have r3 := p12.out.res.cell 3
  have f0 := p12.out.res.free 0
  have f1 := p12.out.res.free 1
  have f2 := p12.out.res.free 2
  have f3 := p12.out.res.free 3
  have s2 := p12.out.sv.cell 2
  have s3 := p12.out.sv.cell 3
  simp only [scells, List.getElem?_cons_zero, List.getElem?_cons_succ] at r0 r1 r2 r3 s2 s3
  rcases hcase.out with ⟨hok, hc⟩ | ⟨hno, hc | ⟨hc, hc2⟩ | ⟨H, N, hc1, hc2, hc3, hc4, hc5⟩⟩
  · obtain ⟨rfl, rfl, rfl, rfl, rfl⟩ : hv = (sgH q : Int) ∧ nv = (sgN q : Int) ∧ ov = (sgO q).data.toList ∧ bv = (sgB q).data.toList ∧ x5 = 0 := by simpa using hc
    obtain ⟨q1, q2, q3⟩ := (sgOk_iff q).1 hok
    have hv4 : ¬ 4 < (sgH q : Int) := by omega
    obtain ⟨P, hP⟩ : ∃ P, 2 ^ sgH q = P := ⟨_, rfl⟩
    have hp : (2 : Int) ^ sgH q = (P : Int) := by rw [← hP]; simp
    have hP16 : P ≤ 16 := by rw [← hP]; exact pow_le _ q1
    have hwr : IntKind.i64.wrap (P : Int) = (P : Int) := by rw [IntKind.wrap_i64]; omega
    have hge : sgN q < P := by omega
    refine go_calms [2, 3, 4, 5, 6, 7, 8, 9, 10, 11, 12, 13, 14, 15] 0 rfl (by kernel_rfl) (by kernel_rfl) (by kernel_rfl) C2 ?_
    simp [nth]
    try simp only [Act.put, List.setIfInBounds_toArray, List.set_cons_succ, List.set_cons_zero]
    refine quiet_any rfl (.bool false) (fun w' hw' => by go_simp) ?_
    simp only [Act.put, List.setIfInBounds_toArray, List.set_cons_succ, List.set_cons_zero]
    repeat (go_big_quiet_step (first | exact fun _ => rfl | rfl))
    refine quiet_any rfl (.pointer (some ⟨w.heap.size + 2, 0, none⟩)) (fun w' hw' => by have h := hw'.1; go_simp) ?_
    simp only [Act.put, List.setIfInBounds_toArray, List.set_cons_succ, List.set_cons_zero]
    refine quiet_any rfl (.int .i64 (sgH q : Int)) (fun w' hw' => by have h := hw'.1; go_simp) ?_
    simp only [Act.put, List.setIfInBounds_toArray, List.set_cons_succ, List.set_cons_zero]
    refine quiet_any rfl (.bool false) (fun w' hw' => by go_simp) ?_
    simp only [Act.put, List.setIfInBounds_toArray, List.set_cons_succ, List.set_cons_zero]
    refine quiet_any rfl (.bool false) (fun w' hw' => by go_simp) ?_
    simp only [Act.put, List.setIfInBounds_toArray, List.set_cons_succ, List.set_cons_zero]
    repeat (go_big_quiet_step (first | exact fun _ => rfl | rfl))
    refine quiet_any rfl (.pointer (some ⟨w.heap.size + 2, 1, none⟩)) (fun w' hw' => by have h := hw'.2; go_simp) ?_
    simp only [Act.put, List.setIfInBounds_toArray, List.set_cons_succ, List.set_cons_zero]
    refine quiet_any rfl (.int .i64 (sgN q : Int)) (fun w' hw' => by have h := hw'.2; go_simp) ?_
    simp only [Act.put, List.setIfInBounds_toArray, List.set_cons_succ, List.set_cons_zero]
    refine quiet_any rfl (.pointer (some ⟨w.heap.size + 2, 0, none⟩)) (fun w' hw' => by have h := hw'.1; go_simp) ?_
    simp only [Act.put, List.setIfInBounds_toArray, List.set_cons_succ, List.set_cons_zero]
    refine quiet_any rfl (.int .i64 (sgH q : Int)) (fun w' hw' => by have h := hw'.1; go_simp) ?_
    simp only [Act.put, List.setIfInBounds_toArray, List.set_cons_succ, List.set_cons_zero]
    refine quiet_any rfl (.int .i64 (P : Int)) (fun w' hw' => by go_simp) ?_
    simp only [Act.put, List.setIfInBounds_toArray, List.set_cons_succ, List.set_cons_zero]
    refine quiet_any rfl (.bool false) (fun w' hw' => by go_simp) ?_
    simp only [Act.put, List.setIfInBounds_toArray, List.set_cons_succ, List.set_cons_zero]
    refine quiet_any rfl (.bool false) (fun w' hw' => by go_simp) ?_
    simp only [Act.put, List.setIfInBounds_toArray, List.set_cons_succ, List.set_cons_zero]
    refine wpQuiet_nil ?_
    refine go_done (by kernel_rfl) ?_
    go_simp
    go_wp2_with fail
    have hz := (((p12.out.res.setCell 0 (.int .i64 (sgH q : Int))).setCell 1 (.int .i64 (sgN q : Int))).setCell 2 (.string o)).setCell 3 (.string b)
    have hzB : Below w.heap.size w ((((w12.setCell ⟨w.heap.size, 0, none⟩ (.int .i64 (sgH q : Int))).setCell ⟨w.heap.size, 1, none⟩ (.int .i64 (sgN q : Int))).setCell ⟨w.heap.size, 2, none⟩ (.string o)).setCell ⟨w.heap.size, 3, none⟩ (.string b)) := (((p12.out.bel.setCell (by simp) _).setCell (by simp) _).setCell (by simp) _).setCell (by simp) _
    obtain ⟨wz, hwz⟩ : ∃ wz, ((((w12.setCell ⟨w.heap.size, 0, none⟩ (.int .i64 (sgH q : Int))).setCell ⟨w.heap.size, 1, none⟩ (.int .i64 (sgN q : Int))).setCell ⟨w.heap.size, 2, none⟩ (.string o)).setCell ⟨w.heap.size, 3, none⟩ (.string b)) = wz := ⟨_, rfl⟩
    rw [hwz] at hz hzB ⊢
    have g0 := hz.cell 0
    have g1 := hz.cell 1
    have g2 := hz.cell 2
    have g3 := hz.cell 3
    simp only [scells, List.set_cons_zero, List.set_cons_succ, List.getElem?_cons_zero, List.getElem?_cons_succ] at g0 g1 g2 g3
    clear hz hwz
    refine bodyPost_ret (v := .tuple #[.agg #[.int .i64 (sgH q : Int), .int .i64 (sgN q : Int), .string o, .string b], .bool true]) (by simp [results, Tryz.results158, go_sem, g0, g1, g2, g3]) rfl ⟨by rw [parseV, if_pos hok, ← ho.out, ← hb.out]; rfl, hzB⟩
  · have hx : ¬ x5 = 0 := hc
    have hx1 : (x5 != 0) = true := by simp [hx]
    refine go_calms [2, 3, 4, 5, 6, 7, 8, 9, 10, 11, 12, 13, 14, 15] 0 rfl (by kernel_rfl) (by kernel_rfl) (by kernel_rfl) C2 ?_
    simp [nth]
    try simp only [Act.put, List.setIfInBounds_toArray, List.set_cons_succ, List.set_cons_zero]
    refine quiet_any rfl (.bool true) (fun w' hw' => by go_simp) ?_
    simp only [Act.put, List.setIfInBounds_toArray, List.set_cons_succ, List.set_cons_zero]
    repeat (go_big_quiet_step (first | exact fun _ => rfl | rfl))
    refine quiet_any rfl (.bool true) (fun w' hw' => by go_simp) ?_
    simp only [Act.put, List.setIfInBounds_toArray, List.set_cons_succ, List.set_cons_zero]
    repeat (go_big_quiet_step (first | exact fun _ => rfl | rfl))
    refine quiet_any rfl (.bool true) (fun w' hw' => by go_simp) ?_
    simp only [Act.put, List.setIfInBounds_toArray, List.set_cons_succ, List.set_cons_zero]
    refine wpQuiet_nil ?_
    refine go_done (by kernel_rfl) ?_
    go_simp
    go_wp2_with fail
    have hz := (((p12.out.res.setCell 0 (.int .i64 0)).setCell 1 (.int .i64 0)).setCell 2 (.string ⟨#[]⟩)).setCell 3 (.string ⟨#[]⟩)
    have hzB : Below w.heap.size w ((((w12.setCell ⟨w.heap.size, 0, none⟩ (.int .i64 0)).setCell ⟨w.heap.size, 1, none⟩ (.int .i64 0)).setCell ⟨w.heap.size, 2, none⟩ (.string ⟨#[]⟩)).setCell ⟨w.heap.size, 3, none⟩ (.string ⟨#[]⟩)) := (((p12.out.bel.setCell (by simp) _).setCell (by simp) _).setCell (by simp) _).setCell (by simp) _
    obtain ⟨wz, hwz⟩ : ∃ wz, ((((w12.setCell ⟨w.heap.size, 0, none⟩ (.int .i64 0)).setCell ⟨w.heap.size, 1, none⟩ (.int .i64 0)).setCell ⟨w.heap.size, 2, none⟩ (.string ⟨#[]⟩)).setCell ⟨w.heap.size, 3, none⟩ (.string ⟨#[]⟩)) = wz := ⟨_, rfl⟩
    rw [hwz] at hz hzB ⊢
    have g0 := hz.cell 0
    have g1 := hz.cell 1
    have g2 := hz.cell 2
    have g3 := hz.cell 3
    simp only [scells, List.set_cons_zero, List.set_cons_succ, List.getElem?_cons_zero, List.getElem?_cons_succ] at g0 g1 g2 g3
    clear hz hwz
    refine bodyPost_ret (v := .tuple #[.agg #[.int .i64 0, .int .i64 0, .string ⟨#[]⟩, .string ⟨#[]⟩], .bool false]) (by simp [results, Tryz.results158, go_sem, g0, g1, g2, g3]) rfl ⟨by rw [parseV, hno]; rfl, hzB⟩
  · obtain rfl : x5 = 0 := hc
    have hv4 : 4 < hv := hc2
    refine go_calms [2, 3, 4, 5, 6, 7, 8, 9, 10, 11, 12, 13, 14, 15] 0 rfl (by kernel_rfl) (by kernel_rfl) (by kernel_rfl) C2 ?_
    simp [nth]
    try simp only [Act.put, List.setIfInBounds_toArray, List.set_cons_succ, List.set_cons_zero]
    refine quiet_any rfl (.bool false) (fun w' hw' => by go_simp) ?_
    simp only [Act.put, List.setIfInBounds_toArray, List.set_cons_succ, List.set_cons_zero]
    repeat (go_big_quiet_step (first | exact fun _ => rfl | rfl))
    refine quiet_any rfl (.pointer (some ⟨w.heap.size + 2, 0, none⟩)) (fun w' hw' => by have h := hw'.1; go_simp) ?_
    simp only [Act.put, List.setIfInBounds_toArray, List.set_cons_succ, List.set_cons_zero]
    refine quiet_any rfl (.int .i64 hv) (fun w' hw' => by have h := hw'.1; go_simp) ?_
    simp only [Act.put, List.setIfInBounds_toArray, List.set_cons_succ, List.set_cons_zero]
    refine quiet_any rfl (.bool true) (fun w' hw' => by go_simp) ?_
    simp only [Act.put, List.setIfInBounds_toArray, List.set_cons_succ, List.set_cons_zero]
    refine quiet_any rfl (.bool true) (fun w' hw' => by go_simp) ?_
    simp only [Act.put, List.setIfInBounds_toArray, List.set_cons_succ, List.set_cons_zero]
    repeat (go_big_quiet_step (first | exact fun _ => rfl | rfl))
    refine quiet_any rfl (.bool true) (fun w' hw' => by go_simp) ?_
    simp only [Act.put, List.setIfInBounds_toArray, List.set_cons_succ, List.set_cons_zero]
    refine wpQuiet_nil ?_
    refine go_done (by kernel_rfl) ?_
    go_simp
    go_wp2_with fail
    have hz := (((p12.out.res.setCell 0 (.int .i64 0)).setCell 1 (.int .i64 0)).setCell 2 (.string ⟨#[]⟩)).setCell 3 (.string ⟨#[]⟩)
    have hzB : Below w.heap.size w ((((w12.setCell ⟨w.heap.size, 0, none⟩ (.int .i64 0)).setCell ⟨w.heap.size, 1, none⟩ (.int .i64 0)).setCell ⟨w.heap.size, 2, none⟩ (.string ⟨#[]⟩)).setCell ⟨w.heap.size, 3, none⟩ (.string ⟨#[]⟩)) := (((p12.out.bel.setCell (by simp) _).setCell (by simp) _).setCell (by simp) _).setCell (by simp) _
    obtain ⟨wz, hwz⟩ : ∃ wz, ((((w12.setCell ⟨w.heap.size, 0, none⟩ (.int .i64 0)).setCell ⟨w.heap.size, 1, none⟩ (.int .i64 0)).setCell ⟨w.heap.size, 2, none⟩ (.string ⟨#[]⟩)).setCell ⟨w.heap.size, 3, none⟩ (.string ⟨#[]⟩)) = wz := ⟨_, rfl⟩
    rw [hwz] at hz hzB ⊢
    have g0 := hz.cell 0
    have g1 := hz.cell 1
    have g2 := hz.cell 2
    have g3 := hz.cell 3
    simp only [scells, List.set_cons_zero, List.set_cons_succ, List.getElem?_cons_zero, List.getElem?_cons_succ] at g0 g1 g2 g3
    clear hz hwz
    refine bodyPost_ret (v := .tuple #[.agg #[.int .i64 0, .int .i64 0, .string ⟨#[]⟩, .string ⟨#[]⟩], .bool false]) (by simp [results, Tryz.results158, go_sem, g0, g1, g2, g3]) rfl ⟨by rw [parseV, hno]; rfl, hzB⟩
  · obtain rfl : x5 = 0 := hc1
    obtain rfl : hv = (H : Int) := hc2
    obtain rfl : nv = (N : Int) := hc4
    have hv4 : ¬ 4 < (H : Int) := by omega
    obtain ⟨P, hP⟩ : ∃ P, 2 ^ H = P := ⟨_, rfl⟩
    have hp : (2 : Int) ^ H = (P : Int) := by rw [← hP]; simp
    have hP16 : P ≤ 16 := by rw [← hP]; exact pow_le H hc3
    have hwr : IntKind.i64.wrap (P : Int) = (P : Int) := by rw [IntKind.wrap_i64]; omega
    have hge : (P : Int) ≤ (N : Int) := by omega
    refine go_calms [2, 3, 4, 5, 6, 7, 8, 9, 10, 11, 12, 13, 14, 15] 0 rfl (by kernel_rfl) (by kernel_rfl) (by kernel_rfl) C2 ?_
    simp [nth]
    try simp only [Act.put, List.setIfInBounds_toArray, List.set_cons_succ, List.set_cons_zero]
    refine quiet_any rfl (.bool false) (fun w' hw' => by go_simp) ?_
    simp only [Act.put, List.setIfInBounds_toArray, List.set_cons_succ, List.set_cons_zero]
    repeat (go_big_quiet_step (first | exact fun _ => rfl | rfl))
    refine quiet_any rfl (.pointer (some ⟨w.heap.size + 2, 0, none⟩)) (fun w' hw' => by have h := hw'.1; go_simp) ?_
    simp only [Act.put, List.setIfInBounds_toArray, List.set_cons_succ, List.set_cons_zero]
    refine quiet_any rfl (.int .i64 (H : Int)) (fun w' hw' => by have h := hw'.1; go_simp) ?_
    simp only [Act.put, List.setIfInBounds_toArray, List.set_cons_succ, List.set_cons_zero]
    refine quiet_any rfl (.bool false) (fun w' hw' => by go_simp) ?_
    simp only [Act.put, List.setIfInBounds_toArray, List.set_cons_succ, List.set_cons_zero]
    refine quiet_any rfl (.bool false) (fun w' hw' => by go_simp) ?_
    simp only [Act.put, List.setIfInBounds_toArray, List.set_cons_succ, List.set_cons_zero]
    repeat (go_big_quiet_step (first | exact fun _ => rfl | rfl))
    refine quiet_any rfl (.pointer (some ⟨w.heap.size + 2, 1, none⟩)) (fun w' hw' => by have h := hw'.2; go_simp) ?_
    simp only [Act.put, List.setIfInBounds_toArray, List.set_cons_succ, List.set_cons_zero]
    refine quiet_any rfl (.int .i64 (N : Int)) (fun w' hw' => by have h := hw'.2; go_simp) ?_
    simp only [Act.put, List.setIfInBounds_toArray, List.set_cons_succ, List.set_cons_zero]
    refine quiet_any rfl (.pointer (some ⟨w.heap.size + 2, 0, none⟩)) (fun w' hw' => by have h := hw'.1; go_simp) ?_
    simp only [Act.put, List.setIfInBounds_toArray, List.set_cons_succ, List.set_cons_zero]
    refine quiet_any rfl (.int .i64 (H : Int)) (fun w' hw' => by have h := hw'.1; go_simp) ?_
    simp only [Act.put, List.setIfInBounds_toArray, List.set_cons_succ, List.set_cons_zero]
    refine quiet_any rfl (.int .i64 (P : Int)) (fun w' hw' => by go_simp) ?_
    simp only [Act.put, List.setIfInBounds_toArray, List.set_cons_succ, List.set_cons_zero]
    refine quiet_any rfl (.bool true) (fun w' hw' => by go_simp) ?_
    simp only [Act.put, List.setIfInBounds_toArray, List.set_cons_succ, List.set_cons_zero]
    refine quiet_any rfl (.bool true) (fun w' hw' => by go_simp) ?_
    simp only [Act.put, List.setIfInBounds_toArray, List.set_cons_succ, List.set_cons_zero]
    refine wpQuiet_nil ?_
    refine go_done (by kernel_rfl) ?_
    go_simp
    go_wp2_with fail
    have hz := (((p12.out.res.setCell 0 (.int .i64 0)).setCell 1 (.int .i64 0)).setCell 2 (.string ⟨#[]⟩)).setCell 3 (.string ⟨#[]⟩)
    have hzB : Below w.heap.size w ((((w12.setCell ⟨w.heap.size, 0, none⟩ (.int .i64 0)).setCell ⟨w.heap.size, 1, none⟩ (.int .i64 0)).setCell ⟨w.heap.size, 2, none⟩ (.string ⟨#[]⟩)).setCell ⟨w.heap.size, 3, none⟩ (.string ⟨#[]⟩)) := (((p12.out.bel.setCell (by simp) _).setCell (by simp) _).setCell (by simp) _).setCell (by simp) _
    obtain ⟨wz, hwz⟩ : ∃ wz, ((((w12.setCell ⟨w.heap.size, 0, none⟩ (.int .i64 0)).setCell ⟨w.heap.size, 1, none⟩ (.int .i64 0)).setCell ⟨w.heap.size, 2, none⟩ (.string ⟨#[]⟩)).setCell ⟨w.heap.size, 3, none⟩ (.string ⟨#[]⟩)) = wz := ⟨_, rfl⟩
    rw [hwz] at hz hzB ⊢
    have g0 := hz.cell 0
    have g1 := hz.cell 1
    have g2 := hz.cell 2
    have g3 := hz.cell 3
    simp only [scells, List.set_cons_zero, List.set_cons_succ, List.getElem?_cons_zero, List.getElem?_cons_succ] at g0 g1 g2 g3
    clear hz hwz
    refine bodyPost_ret (v := .tuple #[.agg #[.int .i64 0, .int .i64 0, .string ⟨#[]⟩, .string ⟨#[]⟩], .bool false]) (by simp [results, Tryz.results158, go_sem, g0, g1, g2, g3]) rfl ⟨by rw [parseV, hno]; rfl, hzB⟩

theorem sgO_size (q : ByteArray) (h : sgOk q = true) : (sgO q).size = 288 := by
  obtain ⟨h1, h2, h3⟩ := (sgOk_iff q).1 h
  rw [sgO, ByteArray.size_extract]; omega
theorem sgB_size (q : ByteArray) (h : sgOk q = true) : (sgB q).size = 32 * sgH q := by
  obtain ⟨h1, h2, h3⟩ := (sgOk_iff q).1 h
  rw [sgB, ByteArray.size_extract]; omega
theorem txt_ne {a b : ByteArray} (h : ¬ a = b) : ¬ a.toList = b.toList := fun e => h (by
  rw [ByteArray.toList_eq, ByteArray.toList_eq] at e
  exact ByteArray.ext (Array.ext' e))
theorem pow2_lt (h : Nat) (hh : h ≤ 4) : 2 ^ h < 65536 := by have := pow_le h hh; omega
/-- A struct of four fields in a new block. -/
theorem sg_store (w w1 : World) (h n : Int) (o b : ByteArray) (hb : Below w.heap.size w w1) :
    Blk (w1.alloc (.cells #[.int .i64 h, .int .i64 n, .string o, .string b] 181)) w1.heap.size (scells h n o b) 181 ∧ Below w.heap.size w (w1.alloc (.cells #[.int .i64 h, .int .i64 n, .string o, .string b] 181)) :=
  ⟨Blk.new w1 (scells h n o b) _, hb.alloc hb.size _⟩

set_option maxHeartbeats 1600000 in
set_option maxRecDepth 100000 in
theorem verify_no (i t q : ByteArray) (w : World) (hq : sgOk q = false) :
    Calls Tryz.prog 142 #[.string i, .string t, .string q] w fun e w' => e = .returned (.int .i64 3) ∧ Below w.heap.size w w' := by
  have hP := parse_any q w
  have hnot : ∀ (x : Bool) (w : World), (Op.unary .not (.bool x)).run Tryz.prog w = .ok (.bool (!x)) w := fun _ _ => rfl
  rw [parseV, hq, if_neg (by simp)] at hP
  have hS := fun w1 (hb : Below w.heap.size w w1) => sg_store w w1 0 0 ⟨#[]⟩ ⟨#[]⟩ hb
  unfold sgV at hP
  replace hS := Box.mk hS
  clear hq
  go_enter Tryz.func142, Tryz.ntmps142
  go_wp2_with fail
  refine hP.mono ?_
  clear hP
  rintro e w1 ⟨rfl, hb1⟩
  obtain ⟨h1, h2⟩ := hS.out w1 hb1
  replace h2 := Box.mk h2
  clear hS hb1 h1
  go_wp2_with fail
  go_returns
  exact ⟨rfl, h2.out⟩
set_option maxHeartbeats 1600000 in
set_option maxRecDepth 100000 in
theorem verify_ok (i t q : ByteArray) (w : World) (hK : KIs w) (hq : sgOk q = true) (ht : t.size ≤ 1125899906842624) :
    Calls Tryz.prog 142 #[.string i, .string t, .string q] w fun e w' => e = .returned (.int .i64 (if idV (sgH q) (upV (recT (sgN q) t (sgO q)) (sgN q) (sgB q) (sgH q)) = i then 0 else 9)) ∧ Below w.heap.size w w' := by
  have hP := parse_any q w
  have hnot : ∀ (x : Bool) (w : World), (Op.unary .not (.bool x)).run Tryz.prog w = .ok (.bool (!x)) w := fun _ _ => rfl
  rw [parseV, if_pos hq] at hP
  obtain ⟨q1, q2, q3⟩ := (sgOk_iff q).1 hq
  have hp := pow2_lt (sgH q) q1
  have hS := fun w1 (hb : Below w.heap.size w w1) => sg_store w w1 (sgH q) (sgN q) (sgO q) (sgB q) hb
  have hR := fun w1 (hb : Below w.heap.size w w1) => recover_ok t (sgO q) (sgN q) w1 (hK.below hb hK.lt) (by omega) (sgO_size q hq) ht
  have hC := fun w1 (hb : Below w.heap.size w w1) => climb_any (recT (sgN q) t (sgO q)) (sgB q) (sgN q) (sgH q) w1 (hK.below hb hK.lt) (tagS_size _ _) (sgB_size q hq) q1 (by omega)
  have hI := fun w1 (hb : Below w.heap.size w w1) => id_any (sgH q) (upV (recT (sgN q) t (sgO q)) (sgN q) (sgB q) (sgH q)) w1 (hK.below hb hK.lt) (by omega) (upV_size _ _ _ (tagS_size _ _) _)
  unfold sgV at hP
  generalize idV (sgH q) (upV (recT (sgN q) t (sgO q)) (sgN q) (sgB q) (sgH q)) = y at hI ⊢
  generalize upV (recT (sgN q) t (sgO q)) (sgN q) (sgB q) (sgH q) = x at hC hI
  generalize recT (sgN q) t (sgO q) = r at hR hC
  generalize (sgH q : Int) = H at hP hS hI
  generalize (sgN q : Int) = N at hP hS hR hC
  generalize sgO q = o at hP hS hR
  generalize sgB q = b at hP hS hC
  replace hS := Box.mk hS
  replace hR := Box.mk hR
  replace hC := Box.mk hC
  replace hI := Box.mk hI
  clear hq hK ht q1 q2 q3 hp
  go_enter Tryz.func142, Tryz.ntmps142
  go_wp2_with fail
  refine hP.mono ?_
  clear hP
  rintro e w1 ⟨rfl, hb1⟩
  obtain ⟨h1, h2⟩ := hS.out w1 hb1
  have hF := hR.out _ h2
  obtain ⟨w2, hw2⟩ : ∃ w2, w1.alloc (.cells #[.int .i64 H, .int .i64 N, .string o, .string b] 181) = w2 := ⟨_, rfl⟩
  rw [hw2] at h1 h2 hF
  have c1 := h1.cell 1
  have c2 := h1.cell 2
  simp only [scells, List.getElem?_cons_zero, List.getElem?_cons_succ] at c1 c2
  obtain ⟨B, hBe⟩ : ∃ B, w1.heap.size = B := ⟨_, rfl⟩
  rw [hBe] at h1 c1 c2
  replace h1 := Box.mk h1
  replace h2 := Box.mk h2
  clear hS hb1 hR
  go_wp2_with fail
  refine hF.mono ?_
  clear hF
  rintro e w3 ⟨rfl, hb3⟩
  have hB3 : Below w.heap.size w w3 := mono_bel h2.out hb3 (Nat.le_refl _)
  have hD3 := h1.out.below hb3 h1.out.lt
  have d0 : w3.drew.cell? ⟨B, 0, none⟩ = some (.int .i64 H) := hD3.cell 0
  have d1 : w3.drew.cell? ⟨B, 1, none⟩ = some (.int .i64 N) := hD3.cell 1
  have d3 : w3.drew.cell? ⟨B, 3, none⟩ = some (.string b) := hD3.cell 3
  have hBd := hB3.trans ((dB w3).mono hB3.size)
  have hF := hC.out _ hBd
  replace hD3 := Box.mk (show Blk w3.drew B (scells H N o b) _ from hD3)
  replace hBd := Box.mk hBd
  clear h1 h2 hb3 hB3 hC c1 c2
  go_wp2_with fail
  refine region_go (C := fun w' => w'.cell? ⟨B, 0, none⟩ = some (.int .i64 H) ∧ w'.cell? ⟨B, 1, none⟩ = some (.int .i64 N) ∧ w'.cell? ⟨B, 3, none⟩ = some (.string b)) rfl ?_
  refine go_calms [0, 1, 2, 3, 4, 5, 6, 9] 3 rfl (by kernel_rfl) (by kernel_rfl) (by kernel_rfl) ⟨d0, d1, d3⟩ ?_
  simp [nth]
  try simp only [Act.put]
  refine quiet_any rfl (.pointer (some ⟨B, 0, none⟩)) (fun w' hw' => by have h := hw'.1; go_simp) ?_
  simp only [Act.put, List.setIfInBounds_toArray, List.set_cons_succ, List.set_cons_zero]
  refine quiet_any rfl (.int .i64 H) (fun w' hw' => by have h := hw'.1; go_simp) ?_
  simp only [Act.put, List.setIfInBounds_toArray, List.set_cons_succ, List.set_cons_zero]
  repeat (go_big_quiet_step (first | exact fun _ => rfl | rfl))
  refine quiet_any rfl (.pointer (some ⟨B, 1, none⟩)) (fun w' hw' => by have h := hw'.2.1; go_simp) ?_
  simp only [Act.put, List.setIfInBounds_toArray, List.set_cons_succ, List.set_cons_zero]
  refine quiet_any rfl (.int .i64 N) (fun w' hw' => by have h := hw'.2.1; go_simp) ?_
  simp only [Act.put, List.setIfInBounds_toArray, List.set_cons_succ, List.set_cons_zero]
  refine quiet_any rfl (.pointer (some ⟨B, 3, none⟩)) (fun w' hw' => by have h := hw'.2.2; go_simp) ?_
  simp only [Act.put, List.setIfInBounds_toArray, List.set_cons_succ, List.set_cons_zero]
  refine quiet_any rfl (.string b) (fun w' hw' => by have h := hw'.2.2; go_simp) ?_
  simp only [Act.put, List.setIfInBounds_toArray, List.set_cons_succ, List.set_cons_zero]
  repeat (go_big_quiet_step (first | exact fun _ => rfl | rfl))
  refine wpQuiet_nil ?_
  refine go_forced 7 (by kernel_rfl) (goOp_wp 7 rfl rfl (fun K hK => ?_))
  go_simp
  refine hF.mono ?_
  clear hF
  rintro e w4 ⟨rfl, hb4⟩
  have hB4 := hBd.out.trans (hb4.mono hBd.out.size)
  have hD4 := hD3.out.below hb4 hD3.out.lt
  refine hK _ _ ⟨hD4.cell 0, hD4.cell 1, hD4.cell 3⟩ ?_
  have hF := hI.out _ hB4
  replace hB4 := Box.mk hB4
  replace hD4 := Box.mk hD4
  clear hK K hb4 hD3 hBd hI d0 d1 d3
  refine go_forced 8 (by kernel_rfl) (goOp_wp 8 rfl rfl (fun K hK => ?_))
  go_simp
  refine hF.mono ?_
  clear hF
  rintro e w5 ⟨rfl, hb5⟩
  have hB5 := hB4.out.trans (hb5.mono hB4.out.size)
  have hD5 := hD4.out.below hb5 hD4.out.lt
  have C5 : w5.cell? ⟨B, 0, none⟩ = some (.int .i64 H) ∧ w5.cell? ⟨B, 1, none⟩ = some (.int .i64 N) ∧ w5.cell? ⟨B, 3, none⟩ = some (.string b) := ⟨hD5.cell 0, hD5.cell 1, hD5.cell 3⟩
  refine hK _ _ C5 ?_
  replace hB5 := Box.mk hB5
  clear hK K hb5 hD4 hB4 hD5
  by_cases he : y = i
  · subst he
    refine go_calms [10] 0 rfl (by kernel_rfl) (by kernel_rfl) (by kernel_rfl) C5 ?_
    simp [nth]
    try simp only [Act.put, List.setIfInBounds_toArray, List.set_cons_succ, List.set_cons_zero]
    refine quiet_any rfl (.bool false) (fun w' hw' => by go_simp) ?_
    simp only [Act.put, List.setIfInBounds_toArray, List.set_cons_succ, List.set_cons_zero]
    refine wpQuiet_nil ?_
    refine go_done (by kernel_rfl) ?_
    go_simp
    go_wp2_with fail
    go_returns
    exact ⟨by simp, hB5.out⟩
  · have he2 := txt_ne he
    refine go_calms [10] 0 rfl (by kernel_rfl) (by kernel_rfl) (by kernel_rfl) C5 ?_
    simp [nth]
    try simp only [Act.put, List.setIfInBounds_toArray, List.set_cons_succ, List.set_cons_zero]
    refine quiet_any rfl (.bool true) (fun w' hw' => by go_simp) ?_
    simp only [Act.put, List.setIfInBounds_toArray, List.set_cons_succ, List.set_cons_zero]
    refine wpQuiet_nil ?_
    refine go_done (by kernel_rfl) ?_
    go_simp
    go_wp2_with fail
    go_returns
    exact ⟨by simp, hB5.out⟩
theorem verify_any (i t q : ByteArray) (w : World) (hK : KIs w) (ht : t.size ≤ 1125899906842624) :
    Calls Tryz.prog 142 #[.string i, .string t, .string q] w fun e w' => e = .returned (.int .i64 (verE i t q)) ∧ Below w.heap.size w w' := by
  unfold verE
  cases hq : sgOk q with
  | true => simpa using verify_ok i t q w hK hq ht
  | false => simpa using verify_no i t q w hq
theorem info_s : (Tryz.prog.info? 9).map (fun i => (i.zero, i.size, i.bytes)) = some (some (.string ⟨#[]⟩), 1, 16) := by kernel_rfl
theorem xor_nb (i : Nat) (hi : i < 32) : bits .xor .i64 (i : Int) 1 = ((nb i : Nat) : Int) := by
  have h : ∀ i : Fin 32, bits .xor .i64 ((i.val : Nat) : Int) 1 = ((nb i.val : Nat) : Int) := by decide +kernel
  exact h ⟨i, hi⟩

end Go.Proofs.YtiblkfkeifnpaaaGreatDoor

namespace Go.Proofs.YtiblkfkeifnpaaaGreatDoor
open Go Go.RowKit

theorem getN (q : ByteArray) (i : Nat) (hi : i < q.size) : (((q[i]'hi).toNat : Nat) : Int) = (((q.data.toList.getD i 0).toNat : Nat) : Int) := by
  simp [List.getD, hi, ByteArray.getElem_eq_getElem_data]
set_option maxHeartbeats 1600000 in
set_option maxRecDepth 100000 in
theorem r6number_any (q : ByteArray) (w : World) :
    Calls Tryz.prog 143 #[.string q] w fun e w' => e = .returned (.tuple #[.int .i64 ((numE q).1 : Int), .int .i64 (numE q).2]) ∧ Below w.heap.size w w' := by
  have hB : Box (Below w.heap.size w w) := ⟨Below.refl _ _⟩
  have hBd : Box (Below w.heap.size w w.drew) := ⟨Drawn.below ⟨1, rfl⟩⟩
  have hiff := sgOk_iff q
  by_cases c1 : q.size < 291
  · have hq : sgOk q = false := by
      cases h : sgOk q with
      | false => rfl
      | true => obtain ⟨h1, h2, h3⟩ := hiff.1 h; omega
    rw [numE, hq, if_neg (by simp)]
    have i1 : (q.size : Int) < 291 := by omega
    clear hiff hq c1
    go_enter Tryz.func143, Tryz.ntmps143
    go_wp2_with fail
    go_returns
    exact ⟨rfl, hB.out⟩
  have i1 : ¬ (q.size : Int) < 291 := by omega
  have x0 : 0 < q.size := by omega
  have x1 : 1 < q.size := by omega
  have x2 : 2 < q.size := by omega
  have g0 : (((q[0]'x0).toNat : Nat) : Int) = ((sgH q : Nat) : Int) := getN q 0 x0
  have hHl := sgH_lt q
  by_cases c2 : 4 < sgH q
  · have hq : sgOk q = false := by
      cases h : sgOk q with
      | false => rfl
      | true => obtain ⟨h1, h2, h3⟩ := hiff.1 h; omega
    rw [numE, hq, if_neg (by simp)]
    have i2 : 4 < (sgH q : Int) := by omega
    clear hiff hq c1
    go_enter Tryz.func143, Tryz.ntmps143
    go_wp2_with fail
    go_returns
    exact ⟨rfl, hB.out⟩
  have i2 : ¬ 4 < (sgH q : Int) := by omega
  by_cases c3 : ¬ q.size = 291 + 32 * sgH q
  · have hq : sgOk q = false := by
      cases h : sgOk q with
      | false => rfl
      | true => obtain ⟨h1, h2, h3⟩ := hiff.1 h; omega
    rw [numE, hq, if_neg (by simp)]
    have i3 : ¬ ((q.size : Int) = 291 + 32 * (sgH q : Int)) := by omega
    have i4 : ((q.size : Int) != 291 + 32 * (sgH q : Int)) = true := by simp; omega
    clear hiff hq c1
    go_enter Tryz.func143, Tryz.ntmps143
    go_wp2_with fail
    go_returns
    exact ⟨rfl, hB.out⟩
  have i3 : (q.size : Int) = 291 + 32 * (sgH q : Int) := by omega
  have i4 : ((q.size : Int) != 291 + 32 * (sgH q : Int)) = false := by simp; omega
  have g1 := getN q 1 x1
  have g2 := getN q 2 x2
  have hNl := sgN_lt q
  have hN : (((q.data.toList.getD 1 0).toNat : Nat) : Int) * 256 + (((q.data.toList.getD 2 0).toNat : Nat) : Int) = (sgN q : Int) := by unfold sgN; omega
  have b1 := (q.data.toList.getD 1 0).toNat_lt
  have b2 := (q.data.toList.getD 2 0).toNat_lt
  generalize (q.data.toList.getD 1 0).toNat = u1 at g1 hN b1
  generalize (q.data.toList.getD 2 0).toNat = u2 at g2 hN b2
  obtain ⟨H, hH⟩ : ∃ H, sgH q = H := ⟨_, rfl⟩
  obtain ⟨N, hNe⟩ : ∃ N, sgN q = N := ⟨_, rfl⟩
  have hP := pow2_lt H (by omega)
  obtain ⟨P, hPe⟩ : ∃ P, 2 ^ H = P := ⟨_, rfl⟩
  have hp : (2 : Int) ^ H = (P : Int) := by rw [← hPe]; simp
  rw [hPe] at hP
  rw [hH] at g0 i2 i3 i4
  rw [hNe] at hN hNl
  have hE : numE q = if N < P then (N, 0) else (0, 3) := by
    unfold numE
    by_cases h : N < P
    · rw [if_pos h, hiff.2 ⟨by omega, by omega, by rw [hNe, hH, hPe]; exact h⟩, if_pos rfl, hNe]
    · rw [if_neg h, if_neg (fun h1 => by
        obtain ⟨h2, h3, h4⟩ := hiff.1 h1
        rw [hNe, hH, hPe] at h4
        exact h h4)]
  rw [hE]
  have w1 : IntKind.i64.wrap ((u1 : Int) * 256) = (u1 : Int) * 256 := by rw [IntKind.wrap_i64]; omega
  have w2 : IntKind.i64.wrap ((u1 : Int) * 256 + (u2 : Int)) = (N : Int) := by rw [IntKind.wrap_i64]; omega
  have w3 : IntKind.i64.wrap (P : Int) = (P : Int) := by rw [IntKind.wrap_i64]; omega
  have hnot : ∀ (x : Bool) (w : World), (Op.unary .not (.bool x)).run Tryz.prog w = .ok (.bool (!x)) w := fun _ _ => rfl
  clear hiff hE c1 c3 hH hNe hPe i3 hN
  go_enter Tryz.func143, Tryz.ntmps143
  go_wp2_with fail
  refine region_go (C := fun _ => True) rfl ?_
  refine go_calms [0, 1, 2, 3, 4, 5, 6, 7, 8] 0 rfl (by kernel_rfl) (by kernel_rfl) (by kernel_rfl) trivial ?_
  simp [nth]
  try simp only [Act.put]
  repeat (go_big_quiet_step (first | exact fun _ => rfl | rfl))
  refine wpQuiet_nil ?_
  refine go_done (by kernel_rfl) ?_
  go_simp
  by_cases hNP : N < P
  · have hge : ¬ (P : Int) ≤ (N : Int) := by omega
    go_wp2_with fail
    go_returns
    exact ⟨by simp, hBd.out⟩
  · have hge : (P : Int) ≤ (N : Int) := by omega
    go_wp2_with fail
    go_returns
    exact ⟨by simp, hBd.out⟩
set_option maxHeartbeats 1600000 in
set_option maxRecDepth 100000 in
theorem r6id_any (h : Nat) (t : ByteArray) (w : World) (hh : h ≤ 255) (ht : t.size = 32) :
    Calls Tryz.prog 68 #[.int .i64 (h : Int), .string t] w fun e w' => e = .returned (.string (idV h t)) ∧ Below w.heap.size w w' := by
  have h1 : (by1 h).size = 1 := rfl
  have hsz := tag2_len 38 (by1 h) t (by omega) (by omega)
  have hN : ((UInt8.ofNat h).toNat : Int) = (h : Int) := by rw [UInt8.toNat_ofNat']; omega
  have hcv := one_text w (UInt8.ofNat h)
  have hF := rtag_parts 38 (.slice (some ⟨w.heap.size + 1, 0, none⟩) 2 2) [by1 h, t] ((w.alloc (.cells #[Value.int .u8 ((UInt8.ofNat h).toNat : Int)] 5)).alloc (.cells #[.string (by1 h), .string t] 9))
    (by have := parts_new (w.alloc (.cells #[Value.int .u8 ((UInt8.ofNat h).toNat : Int)] 5)) [by1 h, t] 9; rwa [show (w.alloc (.cells #[Value.int .u8 ((UInt8.ofNat h).toNat : Int)] 5)).heap.size = w.heap.size + 1 by simp] at this)
    (by omega) (by simp)
  rw [show hashOf (tagL 38 [by1 h, t]) = idV h t from rfl] at hF
  have hB : Box (Below w.heap.size w ((w.alloc (.cells #[Value.int .u8 ((UInt8.ofNat h).toNat : Int)] 5)).alloc (.cells #[.string (by1 h), .string t] 9))) := ⟨((Below.refl _ _).alloc (Nat.le_refl _) _).alloc (by simp) _⟩
  obtain ⟨y, hy⟩ : ∃ y, idV h t = y := ⟨_, rfl⟩
  rw [hy] at hF ⊢
  rw [show one (UInt8.ofNat h) = by1 h from rfl] at hcv
  obtain ⟨x, hx⟩ : ∃ x, by1 h = x := ⟨_, rfl⟩
  rw [hx] at hF hcv hB
  rw [hN] at hF hcv hB
  clear hsz hy hx h1 hN
  go_enter Tryz.func68, Tryz.ntmps68
  go_wp2_with fail
  refine hF.mono ?_
  rintro e w3 ⟨rfl, hb3⟩
  clear hF
  have hB3 : Box (Below w.heap.size w w3) := ⟨hB.out.trans (hb3.mono (by simp; omega))⟩
  clear hb3
  go_wp2_with fail
  go_ret
  exact ⟨rfl, hB3.out⟩
end Go.Proofs.YtiblkfkeifnpaaaGreatDoor

namespace Go.Proofs.YtiblkfkeifnpaaaGreatDoor
open Go Go.RowKit

set_option maxHeartbeats 1600000 in
set_option maxRecDepth 100000 in
theorem r6verify_no (i t q : ByteArray) (w : World) (hq : sgOk q = false) :
    Calls Tryz.prog 132 #[.string i, .string t, .string q] w fun e w' => e = .returned (.int .i64 3) ∧ Below w.heap.size w w' := by
  have hF := r6number_any q w
  rw [numE, hq, if_neg (by simp)] at hF
  clear hq
  go_enter Tryz.func132, Tryz.ntmps132
  go_wp2_with fail
  refine hF.mono ?_
  clear hF
  rintro e w1 ⟨rfl, hb1⟩
  replace hb1 := Box.mk hb1
  go_wp2_with fail
  go_returns
  exact ⟨rfl, hb1.out⟩
set_option maxHeartbeats 1600000 in
set_option maxRecDepth 100000 in
theorem r6verify_ok (i t q : ByteArray) (w : World) (hq : sgOk q = true) (ht : t.size ≤ 140737488351232) :
    Calls Tryz.prog 132 #[.string i, .string t, .string q] w fun e w' => e = .returned (.int .i64 (if idV (sgH q) (upV (recT (sgN q) t (sgO q)) (sgN q) (sgB q) (sgH q)) = i then 0 else 9)) ∧ Below w.heap.size w w' := by
  have hF := r6number_any q w
  rw [numE, if_pos hq] at hF
  obtain ⟨q1, q2, q3⟩ := (sgOk_iff q).1 hq
  have hp := pow2_lt (sgH q) q1
  have hR := fun w1 => rrecover_ok t (sgO q) (sgN q) w1 (by omega) (sgO_size q hq) ht
  have hO : q.extract 3 291 = sgO q := rfl
  have x0 : 0 < q.size := by omega
  have x1 : 291 ≤ q.size := by omega
  have x2 : (291 : Int) ≤ (q.size : Int) := by omega
  have g0 : (((q[0]'x0).toNat : Nat) : Int) = ((sgH q : Nat) : Int) := getN q 0 x0
  have hcut : ∀ j, j < sgH q → (sgB q).extract (32 * j) (32 * j + 32) = q.extract (291 + 32 * j) (291 + 32 * j + 32) := fun j hj => by
    rw [sgB, ext_ext _ _ _ _ _ (by omega), Nat.add_assoc]
  have hus : ∀ j, (upV (recT (sgN q) t (sgO q)) (sgN q) (sgB q) j).size = 32 := fun j => upV_size _ _ _ (tagS_size _ _) j
  have hu0 : upV (recT (sgN q) t (sgO q)) (sgN q) (sgB q) 0 = recT (sgN q) t (sgO q) := rfl
  have hup : ∀ j, j < sgH q → upV (recT (sgN q) t (sgO q)) (sgN q) (sgB q) (j + 1) = if (sgN q / 2 ^ j) % 2 = 0 then nodeV (upV (recT (sgN q) t (sgO q)) (sgN q) (sgB q) j) (q.extract (291 + 32 * j) (291 + 32 * j + 32)) else nodeV (q.extract (291 + 32 * j) (291 + 32 * j + 32)) (upV (recT (sgN q) t (sgO q)) (sgN q) (sgB q) j) := fun j hj => by
    rw [upV, hcut j hj]
  obtain ⟨U, hU⟩ : ∃ U, upV (recT (sgN q) t (sgO q)) (sgN q) (sgB q) = U := ⟨_, rfl⟩
  have hI := fun w1 => r6id_any (sgH q) (U (sgH q)) w1 (by omega) (by rw [← hU]; exact hus _)
  rw [hU] at hup hus hu0 ⊢
  rw [← hu0] at hR
  rw [hO.symm] at hR
  generalize hHe : sgH q = H at *
  generalize hNe : sgN q = N at *
  have q2' : (q.size : Int) = 291 + 32 * (H : Int) := by omega
  replace hR := Box.mk hR
  replace hI := Box.mk hI
  replace hup := Box.mk hup
  replace hus := Box.mk hus
  replace q2 := Box.mk q2
  replace q2' := Box.mk q2'
  have hB0 : Box (Below w.heap.size w w) := ⟨Below.refl _ _⟩
  obtain ⟨E, hE⟩ : ∃ E, (if idV H (U H) = i then (0 : Int) else 9) = E := ⟨_, rfl⟩
  rw [hE]
  replace hE := Box.mk hE
  clear hq ht hcut hu0 hU hO hHe hNe q3
  go_enter Tryz.func132, Tryz.ntmps132
  go_wp2_with fail
  refine hF.mono ?_
  clear hF
  rintro e w1 ⟨rfl, hb1⟩
  have hF := hR.out w1
  replace hb1 := Box.mk hb1
  go_wp2_with fail
  refine hF.mono ?_
  clear hF hR
  rintro e w2 ⟨rfl, hb2⟩
  have hB2 : Box (Below w.heap.size w w2) := ⟨mono_bel hb1.out hb2 (Nat.le_refl _)⟩
  clear hb1 hb2 hB0
  go_wp2_with fail
  go_loopw [9, 11] (fun v9 v11 wr => ∃ j : Nat, j ≤ H ∧ v9 = .string (U j) ∧ v11 = .int .i64 (j : Int) ∧ Box (Below w.heap.size w wr)) (fun _ v11 _ => H - (intOf v11).toNat)
  case atStart => exact ⟨0, by omega, rfl, rfl, hB2⟩
  case round =>
    clear hB2
    obtain ⟨j, hj, rfl, rfl, hB⟩ := hrel
    by_cases hlt : j < H
    · have e1 : (291 + 32 * (j : Int)).toNat = 291 + 32 * j := by omega
      have e2 : (323 + 32 * (j : Int)).toNat = 291 + 32 * j + 32 := by omega
      have e3 : 323 + 32 * (j : Int) ≤ (q.size : Int) := by rw [q2'.out]; omega
      have hus1 := hus.out j
      have hup1 := hup.out j hlt
      have hxs : (q.extract (291 + 32 * j) (291 + 32 * j + 32)).size = 32 := by rw [ByteArray.size_extract]; have := q2.out; omega
      obtain ⟨x, hx⟩ : ∃ x, q.extract (291 + 32 * j) (291 + 32 * j + 32) = x := ⟨_, rfl⟩
      rw [hx] at hup1 hxs
      obtain ⟨u, hu⟩ : ∃ u, U j = u := ⟨_, rfl⟩
      rw [hu] at hup1 hus1 ⊢
      obtain ⟨m, hm⟩ : ∃ m, N / 2 ^ j = m := ⟨_, rfl⟩
      rw [hm] at hup1
      have hT1 := fun w1 : World => rtag_parts 37 (.slice (some ⟨w1.heap.size, 0, none⟩) 2 2) [u, x] (w1.alloc (.cells #[.string u, .string x] 9)) (parts_new w1 [u, x] 9) (by have := tag2_len 37 u x (by omega) (by omega); omega) (by simp)
      have hT2 := fun w1 : World => rtag_parts 37 (.slice (some ⟨w1.heap.size, 0, none⟩) 2 2) [x, u] (w1.alloc (.cells #[.string x, .string u] 9)) (parts_new w1 [x, u] 9) (by have := tag2_len 37 x u (by omega) (by omega); omega) (by simp)
      have hdv : (N : Int) / 2 ^ j = (m : Int) := by rw [← hm]; simp
      by_cases h2 : m % 2 = 0
      · have hrm : (m : Int).tmod 2 = 0 := by rw [Int.tmod_eq_emod_of_nonneg (by omega)]; omega
        rw [if_pos h2] at hup1
        replace hup1 := Box.mk hup1
        go_wp2_with fail
        refine (hT1 wr).mono ?_
        rintro e w3 ⟨rfl, hb3⟩
        have hB3 : Box (Below w.heap.size w w3) := ⟨(hB.out.alloc hB.out.size _).trans (hb3.mono (by have := hB.out.size; simp; omega))⟩
        clear hT1 hT2 hb3 hB
        go_wp2_with fail
        exact ⟨⟨j + 1, by omega, by rw [hup1.out]; rfl, by go_num, hB3⟩, by simp [intOf]; omega⟩
      · have hrm : (m : Int).tmod 2 = 1 := by rw [Int.tmod_eq_emod_of_nonneg (by omega)]; omega
        rw [if_neg h2] at hup1
        replace hup1 := Box.mk hup1
        go_wp2_with fail
        refine (hT2 wr).mono ?_
        rintro e w3 ⟨rfl, hb3⟩
        have hB3 : Box (Below w.heap.size w w3) := ⟨(hB.out.alloc hB.out.size _).trans (hb3.mono (by have := hB.out.size; simp; omega))⟩
        clear hT1 hT2 hb3 hB
        go_wp2_with fail
        exact ⟨⟨j + 1, by omega, by rw [hup1.out]; rfl, by go_num, hB3⟩, by simp [intOf]; omega⟩
    · obtain rfl : j = H := by omega
      have hF := hI.out wr
      obtain ⟨y, hy⟩ : ∃ y, idV j (U j) = y := ⟨_, rfl⟩
      rw [hy] at hF
      replace hy := Box.mk hy
      go_wp2_with fail
      refine hF.mono ?_
      rintro e w3 ⟨rfl, hb3⟩
      have hB3 : Box (Below w.heap.size w w3) := ⟨mono_bel hB.out hb3 (Nat.le_refl _)⟩
      clear hF hb3 hB
      by_cases he : y = i
      · subst he
        go_wp2_with fail
        go_returns
        exact ⟨by rw [← hE.out, hy.out]; simp, hB3.out⟩
      · have he2 := txt_ne he
        have he3 : (y.toList == i.toList) = false := by simp [he2]
        go_wp2_with fail
        go_returns
        exact ⟨by rw [← hE.out, hy.out]; simp [he], hB3.out⟩
theorem r6verify_any (i t q : ByteArray) (w : World) (ht : t.size ≤ 140737488351232) :
    Calls Tryz.prog 132 #[.string i, .string t, .string q] w fun e w' => e = .returned (.int .i64 (verE i t q)) ∧ Below w.heap.size w w' := by
  unfold verE
  cases hq : sgOk q with
  | true => simpa using r6verify_ok i t q w hq ht
  | false => simpa using r6verify_no i t q w hq
end Go.Proofs.YtiblkfkeifnpaaaGreatDoor

namespace Go.Proofs.YtiblkfkeifnpaaaGreatDoor
open Go Go.RowKit

/-- The first n nodes of a height. -/
def tx (s : ByteArray) (j n : Nat) : List Value := (List.range n).map fun i => Value.string (lvl s j i)
theorem tx_get (s : ByteArray) (j n i : Nat) (hi : i < n) : (tx s j n)[i]? = some (.string (lvl s j i)) := by simp [tx, hi]
theorem tx_succ (s : ByteArray) (j n : Nat) : tx s j (n + 1) = tx s j n ++ [.string (lvl s j n)] := by simp [tx, List.range_succ]
def lvs (lv : Nat → Value) (n : Nat) : List Value := (List.range n).map lv
theorem lvs_get (lv : Nat → Value) (n i : Nat) (hi : i < n) : (lvs lv n)[i]? = some (lv i) := by simp [lvs, hi]
theorem info_ss : (Tryz.prog.info? 22).map (fun i => (i.zero, i.size, i.bytes)) = some (some (.slice none 0 0), 1, 24) := by kernel_rfl
def qcells (s : ByteArray) (h : Nat) (v : Value) (u : Nat) : List Value := [.string s, .int .i64 (h : Int), v, .int .i64 (u : Int)]
/-- The document's key with the heights 0 to j of its tree: its block, the row of rows, each row. -/
structure QPart (w : World) (b : Nat) (s : ByteArray) (h u : Nat) (bl cl : Nat) (lv : Nat → Value) (j : Nat) : Prop where
  blk : Blk w b (qcells s h (.slice (some ⟨bl, 0, none⟩) (j + 1) cl) u) 105
  row : Pk.Row w 22 1 (.slice (some ⟨bl, 0, none⟩) (j + 1) cl) (j + 1) (lvs lv (j + 1))
  lev : ∀ i, i ≤ j → ∃ g c, lv i = .slice (some ⟨g, 0, none⟩) (2 ^ (h - i)) c ∧ Pk.Row w 9 1 (.slice (some ⟨g, 0, none⟩) (2 ^ (h - i)) c) (2 ^ (h - i)) (tx s i (2 ^ (h - i)))
/-- A block's element type in a world. -/
def Ty (w : World) (b : Nat) (t : TypeId) : Prop := ∃ cs, w.heap[b]? = some (.cells cs t)
theorem Ty.inj {w : World} {b : Nat} {t u : TypeId} (h : Ty w b t) (k : Ty w b u) : t = u := by
  obtain ⟨cs, h⟩ := h
  obtain ⟨ds, k⟩ := k
  rw [h] at k
  cases k; rfl
theorem Blk.ty {w : World} {b : Nat} {cs : List Value} {t : TypeId} (h : Blk w b cs t) : Ty w b t := ⟨_, h⟩
theorem Row_ty {w : World} {e : TypeId} {size n c g : Nat} {xs : List Value} (h : Pk.Row w e size (.slice (some ⟨g, 0, none⟩) n c) n xs) : Ty w g e := by
  obtain ⟨_, ⟨h0, _⟩ | ⟨g2, cap, cur, h0, _, hg, _⟩⟩ := h
  · cases h0
  · cases h0
    exact ⟨_, hg⟩
theorem Ty.lt {w : World} {b : Nat} {t : TypeId} (h : Ty w b t) : b < w.heap.size := by
  obtain ⟨cs, h⟩ := h
  exact (Array.getElem?_eq_some_iff.1 h).1
/-- What changes none of the three kinds of blocks keeps the key. -/
theorem QPart.keep {S : Nat → Prop} {w w' : World} {b : Nat} {s : ByteArray} {h u bl cl j : Nat} {lv : Nat → Value} (q : QPart w b s h u bl cl lv j) (hc : Pk.Chg S w w')
    (hS : ∀ i t, i < w.heap.size → S i → Ty w i t → t ≠ 105 ∧ t ≠ 22 ∧ t ≠ 9) : QPart w' b s h u bl cl lv j := by
  refine ⟨hc.blk q.blk fun e => (hS b _ q.blk.lt e q.blk.ty).1 rfl, q.row.chg hc fun k hk e => ?_, fun i hi => ?_⟩
  · obtain rfl : bl = k := by simpa [Value.ownBlock] using hk
    exact (hS bl _ (Row_ty q.row).lt e (Row_ty q.row)).2.1 rfl
  · obtain ⟨g, c, e1, hr⟩ := q.lev i hi
    refine ⟨g, c, e1, hr.chg hc fun k hk e => ?_⟩
    obtain rfl : g = k := by simpa [Value.ownBlock] using hk
    exact (hS g _ (Row_ty hr).lt e (Row_ty hr)).2.2 rfl
theorem one_new (w : World) (x : Value) (e : TypeId) : ∀ j u, [x][j]? = some u → (w.alloc (.cells #[x] e)).cell? ((⟨w.heap.size, 0, none⟩ : Addr).add j) = some u := fun j u hj => by
  have hadd : (⟨w.heap.size, 0, none⟩ : Addr).add j = ⟨w.heap.size, j, none⟩ := by unfold Addr.add; split <;> simp_all
  rw [hadd, ← hj]
  exact (Blk.new w [x] e).cell j
/-- The row of the lowest height while it is laid. -/
structure LowAt (w0 w : World) (s : ByteArray) (h n : Nat) (v : Value) : Prop where
  row : Pk.Row w 9 1 v n (tx s 0 n)
  own : ∀ k, v.ownBlock = some k → w0.heap.size < k
  blk : Blk w w0.heap.size (qcells s h (.slice none 0 0) 0) 105
  bel : Below w0.heap.size w0 w
theorem LowAt.push {w0 wr w2 w3 w4 : World} {s x : ByteArray} {h n : Nat} {v vo : Value} (hL : LowAt w0 wr s h n v) (hb2 : Below wr.heap.size wr w2) (hb3 : Below w2.heap.size w2 w3) (hx : pubT s n = x)
    (hp : Pk.PushedRow w3 9 1 v (n + 1) (tx s 0 n ++ [.string x]) vo w4) : LowAt w0 w4 s h (n + 1) vo := by
  have hb : Below wr.heap.size wr w3 := mono_bel hb2 hb3 (Nat.le_refl _)
  have hsz := hL.bel.size
  have hsz3 := hb.size
  have hl := hL.blk.lt
  refine ⟨?_, fun k hk => ?_, hp.chg.blk (hL.blk.below hb hl) fun e => ?_, (mono_bel hL.bel hb (Nat.le_refl _)).trans (hp.chg.below (by omega) fun i hi => ?_)⟩
  · rw [tx_succ, show lvl s 0 n = pubT s n from rfl, hx]
    exact hp.row
  · rcases hp.place k hk with h1 | h1
    · exact hL.own k h1
    · omega
  · have := hL.own _ e
    omega
  · have := hL.own _ hi
    omega
theorem nil_pushed {w2 w3 : World} {e : TypeId} {size n : Nat} {xs : List Value} {v : Value} (hp : Pk.PushedRow w2 e size (.slice none 0 0) n xs v w3) : Pk.Chg (fun _ => False) w2 w3 := hp.chg.mono fun i _ e => by cases e
/-- The first row of rows. -/
theorem QPart.start {w0 wr w2 w3 : World} {s : ByteArray} {h g c bl cl m : Nat} (hm : 2 ^ h = m) (hL : LowAt w0 wr s h m (.slice (some ⟨g, 0, none⟩) m c)) (hb : Below wr.heap.size wr w2)
    (hp : Pk.PushedRow w2 22 1 (.slice none 0 0) 1 [.slice (some ⟨g, 0, none⟩) m c] (.slice (some ⟨bl, 0, none⟩) 1 cl) w3) :
    QPart (w3.setCell ⟨w0.heap.size, 2, none⟩ (.slice (some ⟨bl, 0, none⟩) 1 cl)) w0.heap.size s h 0 bl cl (fun _ => .slice (some ⟨g, 0, none⟩) m c) 0 ∧ w0.heap.size < bl ∧ Below w0.heap.size w0 (w3.setCell ⟨w0.heap.size, 2, none⟩ (.slice (some ⟨bl, 0, none⟩) 1 cl)) := by
  subst hm
  have hg := hL.own g rfl
  have hl := hL.blk.lt
  have hsz := hb.size
  have hbl : w2.heap.size ≤ bl := by
    rcases hp.place bl rfl with h1 | h1
    · cases h1
    · exact h1
  have hc2 := nil_pushed hp
  have hc : Pk.Chg (fun _ => False) wr w3 := (chg0 hb).trans hc2 fun _ _ h => h
  have hK := (hc.blk hL.blk (fun h => h)).setCell 2 (.slice (some ⟨bl, 0, none⟩) 1 cl)
  have hlow : Below w0.heap.size w0 w3 := hL.bel.trans ((hc.below (Nat.le_refl _) (fun _ h => h.elim)).mono hL.bel.size)
  refine ⟨⟨hK, ?_, fun i hi => ?_⟩, by omega, hlow.setCell (by simp) _⟩
  · refine (show Pk.Row w3 _ 1 _ _ _ from hp.row).kept fun k hk => ?_
    obtain rfl : bl = k := by simpa [Value.ownBlock] using hk
    exact Below.heap_setCell _ _ _ _ (by simp; omega)
  · obtain rfl : i = 0 := by omega
    refine ⟨g, c, rfl, ?_⟩
    refine (hL.row.chg hc (fun _ _ h => h)).kept fun k hk => ?_
    obtain rfl : g = k := by simpa [Value.ownBlock] using hk
    exact Below.heap_setCell _ _ _ _ (by simp; omega)
end Go.Proofs.YtiblkfkeifnpaaaGreatDoor

namespace Go.Proofs.YtiblkfkeifnpaaaGreatDoor
open Go Go.RowKit

def QKey (w : World) (b : Nat) (s : ByteArray) (h u : Nat) : Prop := (∃ bl cl lv, QPart w b s h u bl cl lv h) ∧ h ≤ 4
theorem QKey.blk {w : World} {b : Nat} {s : ByteArray} {h u : Nat} (q : QKey w b s h u) : ∃ v, Blk w b (qcells s h v u) 105 := by
  obtain ⟨⟨bl, cl, lv, hq⟩, _⟩ := q
  exact ⟨_, hq.blk⟩
theorem QKey.keep {S : Nat → Prop} {w w' : World} {b : Nat} {s : ByteArray} {h u : Nat} (q : QKey w b s h u) (hc : Pk.Chg S w w')
    (hS : ∀ i t, i < w.heap.size → S i → Ty w i t → t ≠ 105 ∧ t ≠ 22 ∧ t ≠ 9) : QKey w' b s h u := by
  obtain ⟨⟨bl, cl, lv, hq⟩, hh⟩ := q
  exact ⟨⟨bl, cl, lv, hq.keep hc hS⟩, hh⟩
theorem QKey.here {w w' : World} {b : Nat} {s : ByteArray} {h u : Nat} (q : QKey w b s h u) (hb : Below w.heap.size w w') : QKey w' b s h u :=
  q.keep (S := fun _ => False) (chg0 hb) (fun _ _ _ hf _ => hf.elim)
/-- The cells that a call reads. -/
structure QC (w : World) (b h u bl cl g c : Nat) (j i n : Nat) (x : ByteArray) : Prop where
  c1 : w.cell? ⟨b, 1, none⟩ = some (.int .i64 (h : Int))
  c2 : w.cell? ⟨b, 2, none⟩ = some (.slice (some ⟨bl, 0, none⟩) (h + 1) cl)
  c3 : w.cell? ⟨b, 3, none⟩ = some (.int .i64 (u : Int))
  l : w.cell? ⟨bl, j, none⟩ = some (.slice (some ⟨g, 0, none⟩) n c)
  x : w.cell? ⟨g, i, none⟩ = some (.string x)
theorem QC.below {w w' : World} {b h u bl cl g c j i n : Nat} {x : ByteArray} (q : QC w b h u bl cl g c j i n x) (hb : Below w.heap.size w w') : QC w' b h u bl cl g c j i n x := by
  have lt : ∀ p v, w.cell? p = some v → w'.cell? p = some v := fun p v hp => by
    by_cases hl : p.block < w.heap.size
    · rw [hb.cell hl]; exact hp
    · exfalso
      unfold World.cell? at hp
      rw [Array.getElem?_eq_none (by omega)] at hp
      cases hp
  exact ⟨lt _ _ q.c1, lt _ _ q.c2, lt _ _ q.c3, lt _ _ q.l, lt _ _ q.x⟩
theorem QPart.qc {w : World} {b : Nat} {s : ByteArray} {h u bl cl : Nat} {lv : Nat → Value} (q : QPart w b s h u bl cl lv h) (j i : Nat) (hj : j ≤ h) (hi : i < 2 ^ (h - j)) : ∃ g c, QC w b h u bl cl g c j i (2 ^ (h - j)) (lvl s j i) := by
  obtain ⟨g, c, e, hr⟩ := q.lev j hj
  refine ⟨g, c, q.blk.cell 1, q.blk.cell 2, q.blk.cell 3, ?_, ?_⟩
  · rw [q.row.cells j _ (lvs_get lv (h + 1) j (by omega)), e]
  · exact hr.cells i _ (tx_get _ _ _ _ hi)
set_option maxHeartbeats 1600000 in
set_option maxRecDepth 100000 in
theorem r6ID_any (b : Nat) (s : ByteArray) (h u : Nat) (w : World) (q : QKey w b s h u) :
    Calls Tryz.prog 23 #[.pointer (some ⟨b, 0, none⟩)] w fun e w' => e = .returned (.string (keyID s h)) ∧ Below w.heap.size w w' := by
  obtain ⟨⟨bl, cl, lv, hq⟩, hh⟩ := q
  obtain ⟨g, c, hc⟩ := hq.qc h 0 (Nat.le_refl _) (by simp)
  rw [Nat.sub_self, Nat.pow_zero] at hc
  have hF := r6id_any h (lvl s h 0) w.drew (by omega) (lvl_size _ _ _)
  obtain ⟨x, hx⟩ : ∃ x, lvl s h 0 = x := ⟨_, rfl⟩
  obtain ⟨y, hy⟩ : ∃ y, idV h x = y := ⟨_, rfl⟩
  rw [show keyID s h = idV h (lvl s h 0) from rfl]
  rw [hx] at hc hF ⊢
  rw [hy] at hF ⊢
  have hd : QC w.drew b h u bl cl g c h 0 1 x := hc.below (dB w)
  clear hq hc hx hy
  go_enter Tryz.func23, Tryz.ntmps23
  go_wp2_with fail
  refine region_go (C := fun w' => QC w' b h u bl cl g c h 0 1 x) rfl ?_
  refine go_calms [0, 1, 2, 3, 4, 5, 6, 7, 8, 9, 10, 11, 12, 13, 14, 15] 2 rfl (by kernel_rfl) (by kernel_rfl) (by kernel_rfl) hd ?_
  simp [nth]
  try simp only [Act.put]
  repeat (go_big_quiet_step (first | exact fun _ => rfl | rfl))
  refine quiet_any rfl (.int .i64 (h : Int)) (fun w' hw' => by have h := hw'.c1; go_simp) ?_
  simp only [Act.put, List.setIfInBounds_toArray, List.set_cons_succ, List.set_cons_zero]
  repeat (go_big_quiet_step (first | exact fun _ => rfl | rfl))
  refine quiet_any rfl (.slice (some ⟨bl, 0, none⟩) (h + 1) cl) (fun w' hw' => by have h := hw'.c2; go_simp) ?_
  simp only [Act.put, List.setIfInBounds_toArray, List.set_cons_succ, List.set_cons_zero]
  repeat (go_big_quiet_step (first | exact fun _ => rfl | rfl))
  refine quiet_any rfl (.int .i64 (h : Int)) (fun w' hw' => by have h := hw'.c1; go_simp) ?_
  simp only [Act.put, List.setIfInBounds_toArray, List.set_cons_succ, List.set_cons_zero]
  repeat (go_big_quiet_step (first | exact fun _ => rfl | rfl))
  repeat (go_big_quiet_step (first | exact fun _ => rfl | rfl))
  refine quiet_any rfl (.slice (some ⟨g, 0, none⟩) 1 c) (fun w' hw' => by have h := hw'.l; go_simp) ?_
  simp only [Act.put, List.setIfInBounds_toArray, List.set_cons_succ, List.set_cons_zero]
  repeat (go_big_quiet_step (first | exact fun _ => rfl | rfl))
  refine quiet_any rfl (.string x) (fun w' hw' => by have h := hw'.x; go_simp) ?_
  simp only [Act.put, List.setIfInBounds_toArray, List.set_cons_succ, List.set_cons_zero]
  refine wpQuiet_nil ?_
  refine go_forced 16 (by kernel_rfl) (goOp_wp 16 rfl rfl (fun K hK => ?_))
  go_simp
  refine hF.mono ?_
  clear hF
  rintro e w2 ⟨rfl, hb2⟩
  have hd2 := hd.below hb2
  refine hK _ _ hd2 ?_
  have hB := Box.mk ((dB w).trans (hb2.mono (dB w).size))
  clear hK K hb2
  refine go_calms [17] 0 rfl (by kernel_rfl) (by kernel_rfl) (by kernel_rfl) hd2 ?_
  simp [nth]
  try simp only [Act.put]
  repeat (go_big_quiet_step (first | exact fun _ => rfl | rfl))
  refine wpQuiet_nil ?_
  refine go_done (by kernel_rfl) ?_
  go_simp
  go_wp2_with fail
  go_ret
  exact ⟨rfl, hB.out⟩
end Go.Proofs.YtiblkfkeifnpaaaGreatDoor

namespace Go.Proofs.YtiblkfkeifnpaaaGreatDoor
open Go Go.RowKit

theorem keyS_acc (s : ByteArray) (h n : Nat) (t : ByteArray) : keyS s h n t = (by1 h ++ by2 n ++ sigT s n t) ++ accT (besV s n) h := rfl
theorem app_accT (x : ByteArray) (g : Nat → ByteArray) (j : Nat) : (x ++ accT g j) ++ g j = x ++ accT g (j + 1) := by rw [ByteArray.append_assoc, accT_succ]
theorem app_acc0 (x : ByteArray) (g : Nat → ByteArray) : x ++ accT g 0 = x := by rw [accT_zero]; exact ByteArray.append_empty
set_option maxHeartbeats 3200000 in
set_option maxRecDepth 100000 in
theorem r6at_any (b : Nat) (s t : ByteArray) (h u n : Nat) (w : World) (q : QKey w b s h u) (hn : n < 2 ^ h) (hs : s.size ≤ 140737488351232) (ht : t.size ≤ 140737488351232) :
    Calls Tryz.prog 24 #[.pointer (some ⟨b, 0, none⟩), .int .i64 (n : Int), .string t] w fun e w' => e = .returned (.string (keyS s h n t)) ∧ Below w.heap.size w w' := by
  have hp := pow_le h q.2
  have hS := rsign_ok s t n w (by omega) hs ht
  have c0 : w.cell? ⟨b, 0, none⟩ = some (.string s) := by
    obtain ⟨v, hb⟩ := q.blk
    exact hb.cell 0
  have hQ := Box.mk q
  have hNum := fun w => rnumber_any n w
  have hh := q.2
  have hE := keyS_acc s h n t
  obtain ⟨g, hg⟩ : ∃ g, sigT s n t = g := ⟨_, rfl⟩
  rw [hg] at hS hE
  rw [hE]
  obtain ⟨x, hx⟩ : ∃ x, UInt8.ofNat h = x := ⟨_, rfl⟩
  have hv : (h : Int) = (x.toNat : Int) := by rw [← hx, UInt8.toNat_ofNat']; omega
  have hxl : x.toNat < 256 := x.toNat_lt
  have hbx : by1 h = one x := by rw [by1, hx]
  have hA0 := app_acc0 (by1 h ++ by2 n ++ g) (besV s n)
  have hAs := app_accT (by1 h ++ by2 n ++ g) (besV s n)
  rw [hbx] at hA0 hAs ⊢
  obtain ⟨x2, hx2⟩ : ∃ x, by2 n = x := ⟨_, rfl⟩
  rw [hx2] at hNum hA0 hAs ⊢
  obtain ⟨G, hG⟩ : ∃ G : Nat → ByteArray, (fun j => one x ++ x2 ++ g ++ accT (besV s n) j) = G := ⟨_, rfl⟩
  rw [show one x ++ x2 ++ g ++ accT (besV s n) h = G h by rw [← hG]]
  have hG0 : G 0 = one x ++ x2 ++ g := by rw [← hG]; exact hA0
  have hGs : ∀ j, G j ++ besV s n j = G (j + 1) := fun j => by rw [← hG]; exact hAs j
  have hwn : (n : Int) < 16 := by omega
  have y1 : (one x).size = 1 := rfl
  have y2 : x2.size = 2 := by rw [← hx2]; rfl
  have y3 : g.size = 288 := by rw [← hg]; exact sigT_size _ _ _
  have hGz : ∀ j, (G j).size = 291 + 32 * j := fun j => by
    rw [← hG]
    simp only [ByteArray.size_append, accT32 (besV s n) (besV_size s n) j, y1, y2, y3]
  have z1 : (one x).size + x2.size ≤ 9223372036854775807 := by omega
  have z2 : (one x).size + x2.size + g.size ≤ 9223372036854775807 := by omega
  replace hGz := Box.mk hGz
  replace hGs := Box.mk hGs
  replace hG0 := Box.mk hG0
  replace hn := Box.mk hn
  replace hv := Box.mk hv
  clear hA0 hAs hG hE hx hx2 hg q hbx y1 y2 y3
  go_enter Tryz.func24, Tryz.ntmps24
  go_wp2_with fail
  refine hS.mono ?_
  clear hS
  rintro e wz ⟨rfl, hb1⟩
  have hQ1 := Box.mk (hQ.out.here hb1)
  have hBz := Box.mk hb1
  have hCw : Box (∀ W, Below wz.heap.size wz W → W.cell? ⟨b, 1, none⟩ = some (.int .i64 (x.toNat : Int))) := ⟨fun W hW => by
    obtain ⟨v, hb⟩ := (hQ1.out.here hW).blk
    rw [← hv.out]
    exact hb.cell 1⟩
  clear hQ hb1 c0
  go_upto_region 2 with fail
  go_cut [9] from 21 (fun v9 wc => v9 = .string (G 0) ∧ Box (Below wz.heap.size wz wc))
  case first =>
    go_wp2_with fail
    have c1 := hCw.out _ (dB wz)
    have hBd : Box (Below wz.heap.size wz wz.drew) := ⟨dB wz⟩
    refine region_go (C := fun w' => w'.cell? ⟨b, 1, none⟩ = some (.int .i64 (x.toNat : Int))) rfl ?_
    generalize wz.drew = wd at hBd c1 ⊢
    refine go_calms [0, 1, 2, 3, 4, 7, 8, 11] 6 rfl (by kernel_rfl) (by kernel_rfl) (by kernel_rfl) c1 ?_
    simp [nth]
    try simp only [Act.put]
    repeat (go_big_quiet_step (first | exact fun _ => rfl | rfl))
    refine quiet_any rfl (.int .i64 (x.toNat : Int)) (fun w' hw' => by have h := hw'; go_simp) ?_
    simp only [Act.put, List.setIfInBounds_toArray, List.set_cons_succ, List.set_cons_zero]
    repeat (go_big_quiet_step (first | exact fun _ => rfl | rfl))
    refine wpQuiet_nil ?_
    refine go_fork 5 9 (by kernel_rfl) (goOp_wp 5 rfl rfl (fun K hK => ?_)) (goOp_wp 9 rfl rfl (fun K hK => ?_))
    · go_simp
      have hB1 : Box (Below wz.heap.size wz (wd.alloc (.cells #[Value.int .u8 (x.toNat : Int)] 5))) := ⟨hBd.out.alloc hBd.out.size _⟩
      refine hK _ _ (hCw.out _ hB1.out) ?_
      clear hK K
      have hO1_1 := Box.mk (own_one wd x)
      clear hBd
      obtain ⟨a1, ha1⟩ : ∃ a, wd.heap.size = a := ⟨_, rfl⟩
      rw [ha1] at hO1_1 ⊢
      generalize wd.alloc (.cells #[Value.int .u8 (x.toNat : Int)] 5) = w1 at hB1 hO1_1 ⊢
      clear ha1
      refine go_fork 6 9 (by kernel_rfl) (goOp_wp 6 rfl rfl (fun K hK => ?_)) (goOp_wp 9 rfl rfl (fun K hK => ?_))
      · have hcv2 := own_text hO1_1.out
        rw [show (⟨[x].toArray⟩ : ByteArray) = one x from rfl] at hcv2
        go_simp
        refine hK _ _ (hCw.out _ hB1.out) ?_
        clear hK K hcv2 hO1_1
        refine go_forced 9 (by kernel_rfl) (goOp_wp 9 rfl rfl (fun K hK => ?_))
        go_simp
        refine (hNum w1).mono ?_
        rintro e w3 ⟨rfl, hb3⟩
        have hB3 : Box (Below wz.heap.size wz w3) := ⟨hB1.out.trans (hb3.mono hB1.out.size)⟩
        refine hK _ _ (hCw.out _ hB3.out) ?_
        clear hK K
        clear hb3 hB1
        have cE := hCw.out _ hB3.out
        refine go_calms [10, 12, 13] 0 rfl (by kernel_rfl) (by kernel_rfl) (by kernel_rfl) cE ?_
        simp [nth]
        try simp only [Act.put]
        refine quiet_any rfl (.string (one x ++ x2)) (fun w' hw' => by go_simp) ?_
        simp only [Act.put, List.setIfInBounds_toArray, List.set_cons_succ, List.set_cons_zero]
        refine quiet_any rfl (.string (one x ++ x2 ++ g)) (fun w' hw' => by go_simp) ?_
        simp only [Act.put, List.setIfInBounds_toArray, List.set_cons_succ, List.set_cons_zero]
        repeat (go_big_quiet_step (first | exact fun _ => rfl | rfl))
        refine wpQuiet_nil ?_
        refine go_done (by kernel_rfl) ?_
        go_simp
        go_wp2_with fail
        go_meet
        exact ⟨by rw [hG0.out], hB3⟩
      · go_simp
        refine (hNum w1).mono ?_
        rintro e w4 ⟨rfl, hb4⟩
        have hB4 : Box (Below wz.heap.size wz w4) := ⟨hB1.out.trans (hb4.mono hB1.out.size)⟩
        refine hK _ _ (hCw.out _ hB4.out) ?_
        clear hK K
        have hO1_4 := Box.mk (ownsRow_below hO1_1.out hb4)
        clear hb4 hB1 hO1_1
        refine go_forced 6 (by kernel_rfl) (goOp_wp 6 rfl rfl (fun K hK => ?_))
        have hcv5 := own_text hO1_4.out
        rw [show (⟨[x].toArray⟩ : ByteArray) = one x from rfl] at hcv5
        go_simp
        refine hK _ _ (hCw.out _ hB4.out) ?_
        clear hK K hcv5 hO1_4
        have cE := hCw.out _ hB4.out
        refine go_calms [10, 12, 13] 0 rfl (by kernel_rfl) (by kernel_rfl) (by kernel_rfl) cE ?_
        simp [nth]
        try simp only [Act.put]
        refine quiet_any rfl (.string (one x ++ x2)) (fun w' hw' => by go_simp) ?_
        simp only [Act.put, List.setIfInBounds_toArray, List.set_cons_succ, List.set_cons_zero]
        refine quiet_any rfl (.string (one x ++ x2 ++ g)) (fun w' hw' => by go_simp) ?_
        simp only [Act.put, List.setIfInBounds_toArray, List.set_cons_succ, List.set_cons_zero]
        repeat (go_big_quiet_step (first | exact fun _ => rfl | rfl))
        refine wpQuiet_nil ?_
        refine go_done (by kernel_rfl) ?_
        go_simp
        go_wp2_with fail
        go_meet
        exact ⟨by rw [hG0.out], hB4⟩
    · go_simp
      refine (hNum wd).mono ?_
      rintro e w6 ⟨rfl, hb6⟩
      have hB6 : Box (Below wz.heap.size wz w6) := ⟨hBd.out.trans (hb6.mono hBd.out.size)⟩
      refine hK _ _ (hCw.out _ hB6.out) ?_
      clear hK K
      clear hb6 hBd
      refine go_forced 5 (by kernel_rfl) (goOp_wp 5 rfl rfl (fun K hK => ?_))
      go_simp
      have hB7 : Box (Below wz.heap.size wz (w6.alloc (.cells #[Value.int .u8 (x.toNat : Int)] 5))) := ⟨hB6.out.alloc hB6.out.size _⟩
      refine hK _ _ (hCw.out _ hB7.out) ?_
      clear hK K
      have hO1_7 := Box.mk (own_one w6 x)
      clear hB6
      obtain ⟨a7, ha7⟩ : ∃ a, w6.heap.size = a := ⟨_, rfl⟩
      rw [ha7] at hO1_7 ⊢
      generalize w6.alloc (.cells #[Value.int .u8 (x.toNat : Int)] 5) = w7 at hB7 hO1_7 ⊢
      clear ha7
      refine go_forced 6 (by kernel_rfl) (goOp_wp 6 rfl rfl (fun K hK => ?_))
      have hcv8 := own_text hO1_7.out
      rw [show (⟨[x].toArray⟩ : ByteArray) = one x from rfl] at hcv8
      go_simp
      refine hK _ _ (hCw.out _ hB7.out) ?_
      clear hK K hcv8 hO1_7
      have cE := hCw.out _ hB7.out
      refine go_calms [10, 12, 13] 0 rfl (by kernel_rfl) (by kernel_rfl) (by kernel_rfl) cE ?_
      simp [nth]
      try simp only [Act.put]
      refine quiet_any rfl (.string (one x ++ x2)) (fun w' hw' => by go_simp) ?_
      simp only [Act.put, List.setIfInBounds_toArray, List.set_cons_succ, List.set_cons_zero]
      refine quiet_any rfl (.string (one x ++ x2 ++ g)) (fun w' hw' => by go_simp) ?_
      simp only [Act.put, List.setIfInBounds_toArray, List.set_cons_succ, List.set_cons_zero]
      repeat (go_big_quiet_step (first | exact fun _ => rfl | rfl))
      refine wpQuiet_nil ?_
      refine go_done (by kernel_rfl) ?_
      go_simp
      go_wp2_with fail
      go_meet
      exact ⟨by rw [hG0.out], hB7⟩
  case rest =>
    clear hCw
    obtain ⟨rfl, hB2⟩ := hcut
    have hQ2 := Box.mk (hQ1.out.here hB2.out)
    have hB3 := Box.mk (mono_bel hBz.out hB2.out (Nat.le_refl _))
    clear hQ1 hB2 hBz hNum hG0 z1 z2
    replace hxl := Box.mk hxl
    go_wp2_with fail
    go_loopw [9, 10] (fun v9 v10 wr => ∃ j : Nat, j ≤ h ∧ v9 = .string (G j) ∧ v10 = .int .i64 (j : Int) ∧ Box (QKey wr b s h u) ∧ Box (Below w.heap.size w wr)) (fun _ v10 _ => h - (intOf v10).toNat)
    case atStart => exact ⟨0, by omega, rfl, rfl, hQ2, hB3⟩
    case round =>
      clear hQ2 hB3
      obtain ⟨j, hj, rfl, rfl, hQ, hB⟩ := hrel
      obtain ⟨⟨bl, cl, lv, hq⟩, _⟩ := hQ.out
      by_cases hlt : j < h
      · have hm1 : n / 2 ^ j < 2 ^ (h - j) := by
          rw [Nat.div_lt_iff_lt_mul (Nat.two_pow_pos j), ← Nat.pow_add, show h - j + j = h by omega]
          exact hn.out
        have hpe : 2 ^ (h - j) = 2 * 2 ^ (h - (j + 1)) := by rw [← Nat.pow_succ']; congr 1; omega
        have hle : 2 ^ (h - j) ≤ 16 := pow_le _ (by omega)
        have hdv : (n : Int) / 2 ^ j = ((n / 2 ^ j : Nat) : Int) := by simp
        obtain ⟨m, hm⟩ : ∃ m, n / 2 ^ j = m := ⟨_, rfl⟩
        rw [hm] at hm1 hdv
        have hnb : nb m < 2 ^ (h - j) := by unfold nb; split <;> omega
        obtain ⟨g1, c1, hc⟩ := hq.qc j (nb m) (by omega) hnb
        have hx : bits .xor .i64 (m : Int) 1 = ((nb m : Nat) : Int) := xor_nb m (by omega)
        have hGj := hGs.out j
        have hGl := hGz.out j
        have hyz := besV_size s n j
        rw [show besV s n j = lvl s j (nb m) by rw [besV, hm]] at hGj hyz
        obtain ⟨y, hy⟩ : ∃ y, lvl s j (nb m) = y := ⟨_, rfl⟩
        rw [hy] at hc hGj hyz
        obtain ⟨q, hq2⟩ : ∃ q, nb m = q := ⟨_, rfl⟩
        obtain ⟨N, hN⟩ : ∃ N, 2 ^ (h - j) = N := ⟨_, rfl⟩
        rw [hq2] at hc hnb hx
        rw [hN] at hc hnb hle hm1
        have hd : QC wr.drew b h u bl cl g1 c1 j q N y := hc.below (dB wr)
        have k1 := hc.c1
        have z3 : (G j).size + y.size ≤ 9223372036854775807 := by omega
        have hQd := Box.mk (hQ.out.here (dB wr))
        have hBd := Box.mk (mono_bel hB.out (dB wr) (Nat.le_refl _))
        replace hGj := Box.mk hGj
        clear hq hm hq2 hN hpe hy hGl hyz hQ hB hc
        go_wp2_with fail
        refine region_go (C := fun w' => QC w' b h u bl cl g1 c1 j q N y) rfl ?_
        refine go_calms [0, 1, 2, 3, 4, 5, 6, 7, 8, 9, 10, 11, 12, 13, 14, 15] 0 rfl (by kernel_rfl) (by kernel_rfl) (by kernel_rfl) hd ?_
        simp [nth]
        try simp only [Act.put]
        repeat (go_big_quiet_step (first | exact fun _ => rfl | rfl))
        refine quiet_any rfl (.slice (some ⟨bl, 0, none⟩) (h + 1) cl) (fun w' hw' => by have h := hw'.c2; go_simp) ?_
        simp only [Act.put, List.setIfInBounds_toArray, List.set_cons_succ, List.set_cons_zero]
        repeat (go_big_quiet_step (first | exact fun _ => rfl | rfl))
        refine quiet_any rfl (.slice (some ⟨g1, 0, none⟩) N c1) (fun w' hw' => by have h := hw'.l; go_simp) ?_
        simp only [Act.put, List.setIfInBounds_toArray, List.set_cons_succ, List.set_cons_zero]
        repeat (go_big_quiet_step (first | exact fun _ => rfl | rfl))
        refine quiet_any rfl (.string y) (fun w' hw' => by have h := hw'.x; go_simp) ?_
        simp only [Act.put, List.setIfInBounds_toArray, List.set_cons_succ, List.set_cons_zero]
        refine quiet_any rfl (.string (G j ++ y)) (fun w' hw' => by go_simp) ?_
        simp only [Act.put, List.setIfInBounds_toArray, List.set_cons_succ, List.set_cons_zero]
        repeat (go_big_quiet_step (first | exact fun _ => rfl | rfl))
        refine wpQuiet_nil ?_
        refine go_done (by kernel_rfl) ?_
        go_simp
        clear hd k1 hx hdv z3
        go_wp2_with fail
        exact ⟨⟨j + 1, by omega, by rw [hGj.out], by go_num, hQd, hBd⟩, by simp [intOf]; omega⟩
      · obtain rfl : j = h := by omega
        have k1 : wr.cell? ⟨b, 1, none⟩ = some (.int .i64 (j : Int)) := hq.blk.cell 1
        clear hq
        go_wp2_with fail
        go_ret
        exact ⟨rfl, hB.out⟩
end Go.Proofs.YtiblkfkeifnpaaaGreatDoor
