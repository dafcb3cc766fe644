/- Walk of the document's hash. | Walks of the document's Tag and of sha.Tag. | Walk of sha.Tag. | Walk of sha.Tag, over parts of any size. | One-time signatures as functions on texts: secrets, links, digits, signatures. No program is named. | Keys of many signatures as functions on texts: the tree, what stands beside a leaf, IDs, signatures' bytes, what is verified. No program is named. -/
import Derived.Lib.AppendStr
import Derived.Test.YtiblkfkeifnpaaaGreatDoorZa1
import Derived.Test.YtiblkfkeifnpaaaGreatDoorZa5
import Derived.Test.YtiblkfkeifnpaaaGreatDoorZa6
set_option linter.all false
namespace Go.Proofs.YtiblkfkeifnpaaaGreatDoor
open Go.RowKit

theorem flat4 (st : S8) (i : Nat) (hi : i ≤ 8) : ((st.list.take i).flatMap be4).length = 4 * i := by
  obtain rfl | rfl | rfl | rfl | rfl | rfl | rfl | rfl | rfl : i = 0 ∨ i = 1 ∨ i = 2 ∨ i = 3 ∨ i = 4 ∨ i = 5 ∨ i = 6 ∨ i = 7 ∨ i = 8 := by omega
  all_goals rfl
end Go.Proofs.YtiblkfkeifnpaaaGreatDoor

namespace Go.Proofs.YtiblkfkeifnpaaaGreatDoor
open Go.RowKit

def tagP (s : ByteArray) : List UInt8 := be4 (BitVec.ofNat 32 s.size) ++ s.data.toList
/-- What a tagged hash is of. -/
def tagL (kind : UInt8) (ps : List ByteArray) : List UInt8 := kind :: ps.flatMap tagP
theorem tag_step (kind : UInt8) (ps : List ByteArray) (i : Nat) (h : i < ps.length) : tagL kind (ps.take i) ++ be4 (BitVec.ofNat 32 (ps.getD i ByteArray.empty).size) ++ (ps.getD i ByteArray.empty).data.toList = tagL kind (ps.take (i + 1)) := by
  rw [List.take_succ_eq_append_getElem h, tagL, tagL, List.flatMap_append]
  simp [List.getD, h, tagP]
theorem tag_part (kind : UInt8) (ps : List ByteArray) (i : Nat) (h : i < ps.length) : (tagL kind (ps.take i)).length + 4 + (ps.getD i ByteArray.empty).size ≤ (tagL kind ps).length := by
  have h1 : (tagL kind (ps.take (i + 1))).length ≤ (tagL kind ps).length := by
    conv => rhs; rw [← List.take_append_drop (i + 1) ps, tagL, List.flatMap_append, List.length_cons, List.length_append]
    rw [tagL, List.length_cons]; omega
  rw [← tag_step kind ps i h, List.length_append, List.length_append, data_len, be4_length] at h1
  exact h1
theorem own_one (w : World) (x : UInt8) : (w.alloc (.cells #[Value.int .u8 (x.toNat : Int)] 5)).ownsRow w.heap.size 5 1 (.slice (some ⟨w.heap.size, 0, none⟩) 1 1) [x].length ([x].map yc) :=
  ⟨rfl, Or.inr ⟨w.heap.size, 1, #[Value.int .u8 (x.toNat : Int)], rfl, Nat.le_refl _, heap_alloc_new w _, Nat.le_refl _, by unfold maxLen; omega, rfl, rfl⟩⟩
end Go.Proofs.YtiblkfkeifnpaaaGreatDoor

namespace Go.Proofs.YtiblkfkeifnpaaaGreatDoor
open Go.RowKit

def one (x : UInt8) : ByteArray := ⟨#[x]⟩
/-- The row of one byte as a text. -/
theorem one_text (w : World) (x : UInt8) : (convert 52 9 (.slice (some ⟨w.heap.size, 0, none⟩) 1 1)).run Tryz.prog (w.alloc (.cells #[Value.int .u8 (x.toNat : Int)] 5)) = .ok (.string (one x)) (w.alloc (.cells #[Value.int .u8 (x.toNat : Int)] 5)) := by
  have := own_text (l := [x]) (own_one w x)
  simpa [one] using this
theorem one_data (x : UInt8) : (one x).data.toList = [x] := rfl
theorem one_size (x : UInt8) : (one x).size = 1 := rfl

end Go.Proofs.YtiblkfkeifnpaaaGreatDoor

namespace Go.Proofs.YtiblkfkeifnpaaaGreatDoor
open Go.RowKit

theorem U_lenB (n : Nat) : (n : Int) % 4294967296 = U (BitVec.ofNat 32 n) := by rw [U, BitVec.toNat_ofNat]; omega

set_option maxHeartbeats 1600000 in
set_option maxRecDepth 100000 in
theorem stagB_any (x : UInt8) (a : Option Addr) (cap : Nat) (ps : List ByteArray) (w : World) (blk off : Nat) (ha : 0 < ps.length → a = some ⟨blk, off, none⟩) (hlt : 0 < ps.length → blk < w.heap.size) (hc : ∀ i, i < ps.length → w.cell? ⟨blk, off + i, none⟩ = some (.string (ps.getD i ByteArray.empty)))
    (hK : KIs w) (hsz : (tagL x ps).length ≤ 1152921504606846976) (hps : ps.length ≤ 16777216) :
    Calls Tryz.prog 178 #[.int .u8 (x.toNat : Int), .slice a ps.length cap] w fun e w' => e = .returned (.string (hashOf (tagL x ps))) ∧ Below w.heap.size w w' := by
  have hW := (Below.refl w.heap.size w).alloc (Nat.le_refl _) (.cells zeros73 131)
  have hW2 := hW.alloc (by simp) (.cells #[Value.int .u8 (x.toNat : Int)] 5)
  have hD : DigIs ((w.alloc (.cells zeros73 131)).alloc (.cells #[Value.int .u8 (x.toNat : Int)] 5)) w.heap.size [] := (DigIs.new w).below ((Below.refl _ _).alloc (Nat.le_refl _) _)
  have hK1 := hK.below hW2 hK.lt
  have hA0 := add_any w.heap.size [] (one x) _ hD hK1 (by rw [one_size]; decide)
  rw [one_data] at hA0
  have hcv := one_text (w.alloc (.cells zeros73 131)) x
  rw [show (w.alloc (.cells zeros73 131)).heap.size = w.heap.size + 1 by simp] at hcv
  replace hW2 := Box.mk hW2
  replace hc := Box.mk hc
  replace ha := Box.mk ha
  replace hlt := Box.mk hlt
  clear hW hD hK1 hK
  have hz := zero_dig
  go_enter Tryz.func178, Tryz.ntmps178
  go_wp2_with fail
  refine hA0.mono ?_
  rintro e w1 ⟨rfl, hD1, hK1, hS1⟩
  have hB1 : Box (Below w.heap.size w w1) := ⟨hW2.out.trans ((hS1.out.mono (by simp; omega)).below (Nat.le_refl _))⟩
  have hD1' : DigIs w1 w.heap.size (tagL x (ps.take 0)) := hD1
  clear hA0 hcv hS1 hW2 hD1
  go_wp2_with fail
  go_loopw [7, 14] (fun _ q wr => ∃ i : Nat, i ≤ ps.length ∧ q = .int .i64 i ∧ DigIs wr w.heap.size (tagL x (ps.take i)) ∧ KIs wr ∧ Box (Below w.heap.size w wr)) (fun _ q _ => ps.length - (intOf q).toNat)
  case atStart => exact ⟨0, by omega, rfl, hD1', hK1, hB1⟩
  case round =>
    clear hD1' hK1 hB1
    obtain ⟨i, hi, rfl, hD, hKr, hB⟩ := hrel
    by_cases hlt2 : i < ps.length
    · have ha' := ha.out (by omega)
      subst ha'
      have hcell : wr.cell? ⟨blk, off + i, none⟩ = some (.string (ps.getD i ByteArray.empty)) := by
        rw [hB.out.cell (p := ⟨blk, off + i, none⟩) (hlt.out (by omega))]; exact hc.out i hlt2
      obtain ⟨s, hs⟩ : ∃ s, ps.getD i ByteArray.empty = s := ⟨_, rfl⟩
      have hstep := tag_step x ps i hlt2
      have hpart := tag_part x ps i hlt2
      rw [hs] at hcell hstep hpart
      have hss : s.size ≤ 1152921504606846976 := by omega
      have hUl := U_lenB s.size
      obtain ⟨u, hu⟩ : ∃ u, BitVec.ofNat 32 s.size = u := ⟨_, rfl⟩
      rw [hu] at hstep hUl
      have hF := four_any u wr
      replace hstep := Box.mk hstep
      replace hpart := Box.mk hpart
      replace hUl := Box.mk hUl
      clear hs
      go_wp2_with fail
      rw [hUl.out]
      refine hF.mono ?_
      clear hF
      rintro e w2 ⟨rfl, hb2⟩
      have hD2 := hD.below hb2
      have hK2 := hKr.below hb2 hKr.lt
      have hA2 := add_any w.heap.size _ (strOfNums (bytes4 u)) w2 hD2 hK2 (by rw [four_size]; have := hpart.out; omega)
      rw [four_data] at hA2
      replace hb2 := Box.mk hb2
      clear hD hKr hD2 hK2
      go_wp2_with fail
      refine hA2.mono ?_
      clear hA2
      rintro e w3 ⟨rfl, hD3, hK3, hS3⟩
      have hA3 := add_any w.heap.size _ s w3 hD3 hK3 (by rw [List.length_append, be4_length]; have := hpart.out; omega)
      rw [hstep.out] at hA3
      clear hD3 hK3
      go_wp2_with fail
      refine hA3.mono ?_
      clear hA3
      rintro e w4 ⟨rfl, hD4, hK4, hS4⟩
      have hB4 : Box (Below w.heap.size w w4) := ⟨by
        have z1 := hB.out.size
        have z2 := hb2.out.size
        have z3 := hS3.out.size
        exact ((hB.out.trans (hb2.out.mono z1)).trans ((hS3.out.mono (by omega)).below (Nat.le_refl _))).trans ((hS4.out.mono (by omega)).below (Nat.le_refl _))⟩
      go_wp2_with fail
      have hm : ps.length - (intOf (Value.int IntKind.i64 (↑i + 1))).toNat < ps.length - (intOf (Value.int IntKind.i64 ↑i)).toNat := by simp [intOf]; omega
      exact ⟨⟨i + 1, by omega, by go_num, hD4, hK4, hB4⟩, hm⟩
    · obtain rfl : i = ps.length := by omega
      rw [List.take_length] at hD
      have hF := sum_some w.heap.size (tagL x ps) wr hD hKr (by omega)
      clear hD hKr
      go_wp2_with (go_at_call 102; refine hF.mono ?_; rintro e w' ⟨rfl, hb⟩)
      go_returns
      exact ⟨rfl, hB.out.trans (hb.mono hB.out.size)⟩
theorem stagB_parts (x : UInt8) (v : Value) (ps : List ByteArray) (w : World) (hv : PartsAt w v ps) (hK : KIs w) (hsz : (tagL x ps).length ≤ 1152921504606846976) (hps : ps.length ≤ 16777216) :
    Calls Tryz.prog 178 #[.int .u8 (x.toNat : Int), v] w fun e w' => e = .returned (.string (hashOf (tagL x ps))) ∧ Below w.heap.size w w' := by
  obtain ⟨a, cap, rfl, h⟩ := hv.ex
  by_cases h0 : 0 < ps.length
  · obtain ⟨blk, off, rfl, hlt, hc⟩ := h h0
    exact stagB_any x _ cap ps w blk off (fun _ => rfl) (fun _ => hlt) hc hK hsz hps
  · exact stagB_any x a cap ps w 0 0 (fun h => absurd h h0) (fun h => absurd h h0) (fun i hi => by omega) hK hsz hps
end Go.Proofs.YtiblkfkeifnpaaaGreatDoor

namespace Go.Proofs.YtiblkfkeifnpaaaGreatDoor
open Go.RowKit

def by1 (k : Nat) : ByteArray := one (UInt8.ofNat k)
def two (x y : UInt8) : ByteArray := ⟨#[x, y]⟩
def by2 (n : Nat) : ByteArray := two (UInt8.ofNat (n / 256)) (UInt8.ofNat n)
theorem hashL_length (m : List UInt8) : (hashL m).length = 32 := by
  rw [hashL]
  generalize stateAt (padded m) ((padded m).length / 64) = s
  rw [← List.take_of_length_le (l := s.list) (i := 8) (Nat.le_refl 8), flat4 s 8 (Nat.le_refl 8)]
theorem hashOf_size (m : List UInt8) : (hashOf m).size = 32 := by
  rw [show (hashOf m).size = (hashL m).length from by simp [hashOf, ByteArray.size], hashL_length]
/-- A tagged hash; its first sixteen bytes. -/
def tagS (k : UInt8) (ps : List ByteArray) : ByteArray := hashOf (tagL k ps)
def val (k : UInt8) (ps : List ByteArray) : ByteArray := (tagS k ps).extract 0 16
theorem tagS_size (k : UInt8) (ps : List ByteArray) : (tagS k ps).size = 32 := hashOf_size _
theorem val_size (k : UInt8) (ps : List ByteArray) : (val k ps).size = 16 := by
  rw [val, ByteArray.size_extract, tagS_size]; rfl
/-- A link, and c links from the place a. -/
def linkV (n i k : Nat) (x : ByteArray) : ByteArray := val 33 [by2 n, by1 i, by1 k, x]
def linksV (n i a : Nat) : Nat → ByteArray → ByteArray
  | 0, x => x
  | c + 1, x => linkV n i (a + c) (linksV n i a c x)
theorem linksV_add (n i a b : Nat) (x : ByteArray) : ∀ c, linksV n i a (b + c) x = linksV n i (a + b) c (linksV n i a b x)
  | 0 => rfl
  | c + 1 => by rw [← Nat.add_assoc, linksV, linksV, linksV_add n i a b x c, Nat.add_assoc]
theorem linksV_size (n i a : Nat) (x : ByteArray) (hx : x.size = 16) : ∀ c, (linksV n i a c x).size = 16
  | 0 => hx
  | _ + 1 => val_size _ _
def secV (s : ByteArray) (n i : Nat) : ByteArray := val 32 [s, by2 n, by1 i]
theorem secV_size (s : ByteArray) (n i : Nat) : (secV s n i).size = 16 := val_size _ _

/-- The digits that the first bytes of a text tell. -/
def lo (l : List UInt8) (i : Nat) : Nat := (l.getD i 0).toNat
def digP (l : List UInt8) : Nat → List Nat
  | 0 => []
  | i + 1 => digP l i ++ [lo l i / 16, lo l i % 16]
def lackN (l : List UInt8) : Nat → Nat
  | 0 => 0
  | i + 1 => lackN l i + ((15 - lo l i / 16) + (15 - lo l i % 16))
def digs (l : List UInt8) : List Nat := digP l 8 ++ [lackN l 8 / 16, lackN l 8 % 16]
theorem lo_lt (l : List UInt8) (i : Nat) : lo l i < 256 := (l.getD i 0).toNat_lt
theorem digP_length (l : List UInt8) : ∀ i, (digP l i).length = 2 * i
  | 0 => rfl
  | i + 1 => by rw [digP, List.length_append, digP_length l i]; rfl
theorem digs_length (l : List UInt8) : (digs l).length = 18 := by rw [digs, List.length_append, digP_length]; rfl
theorem lackN_le (l : List UInt8) : ∀ i, lackN l i ≤ 30 * i
  | 0 => Nat.le_refl _
  | i + 1 => by have := lackN_le l i; rw [lackN]; omega
theorem digP_le (l : List UInt8) : ∀ i, ∀ d ∈ digP l i, d ≤ 15
  | 0, d, h => by cases h
  | i + 1, d, h => by
    rw [digP, List.mem_append] at h
    have := lo_lt l i
    rcases h with h | h
    · exact digP_le l i d h
    · simp at h; omega
theorem digs_mem (l : List UInt8) : ∀ d ∈ digs l, d ≤ 15 := by
  intro d h
  rw [digs, List.mem_append] at h
  have := lackN_le l 8
  rcases h with h | h
  · exact digP_le l 8 d h
  · simp at h; omega
def dig (l : List UInt8) (j : Nat) : Nat := (digs l).getD j 0
theorem dig_le (l : List UInt8) (j : Nat) : dig l j ≤ 15 := by
  unfold dig
  rw [List.getD_eq_getElem?_getD]
  rcases h : (digs l)[j]? with _ | d
  · simp
  · exact digs_mem l d (List.mem_of_getElem? h)
/-- The same digits by the first eight bytes. -/
theorem lo_congr {l m : List UInt8} (h : ∀ i, i < 8 → l.getD i 0 = m.getD i 0) (i : Nat) (hi : i < 8) : lo l i = lo m i := by rw [lo, lo, h i hi]
theorem digP_congr {l m : List UInt8} (h : ∀ i, i < 8 → l.getD i 0 = m.getD i 0) : ∀ i, i ≤ 8 → digP l i = digP m i
  | 0, _ => rfl
  | i + 1, hi => by rw [digP, digP, digP_congr h i (by omega), lo_congr h i (by omega)]
theorem lackN_congr {l m : List UInt8} (h : ∀ i, i < 8 → l.getD i 0 = m.getD i 0) : ∀ i, i ≤ 8 → lackN l i = lackN m i
  | 0, _ => rfl
  | i + 1, hi => by rw [lackN, lackN, lackN_congr h i (by omega), lo_congr h i (by omega)]
theorem digs_congr {l m : List UInt8} (h : ∀ i, i < 8 → l.getD i 0 = m.getD i 0) : digs l = digs m := by
  rw [digs, digs, digP_congr h 8 (Nat.le_refl _), lackN_congr h 8 (Nat.le_refl _)]

/-- A row of eighteen numbers as cells: those that are known, zeros behind them. -/
def dcell (L : List Nat) : List Value := (L ++ List.replicate (18 - L.length) 0).map fun (n : Nat) => Value.int .i64 (n : Int)
theorem dcell_length (L : List Nat) (h : L.length ≤ 18) : (dcell L).length = 18 := by simp [dcell]; omega
theorem dcell_push (L : List Nat) (x : Nat) (k : Nat) (h : L.length = k) (hk : k < 18) : (dcell L).set k (.int .i64 (x : Int)) = dcell (L ++ [x]) := by
  subst h
  have : 18 - L.length = (18 - (L.length + 1)) + 1 := by omega
  simp [dcell, this, List.replicate_succ]
theorem dcell_get (L : List Nat) (h : L.length = 18) (j : Nat) (hj : j < 18) : (dcell L)[j]? = some (.int .i64 ((L.getD j 0 : Nat) : Int)) := by
  simp [dcell, h, hj, List.getD]
theorem dcell_zero (L : List Nat) (j : Nat) (h : L.length ≤ j) (hj : j < 18) : (dcell L)[j]? = some (.int .i64 0) := by
  rw [dcell, List.getElem?_map, List.getElem?_append_right h, List.getElem?_replicate]
  rw [if_pos (by omega)]; rfl

/-- Texts one behind the other. -/
def accL (g : Nat → ByteArray) : Nat → List UInt8
  | 0 => []
  | k + 1 => accL g k ++ (g k).data.toList
def accT (g : Nat → ByteArray) (k : Nat) : ByteArray := ⟨(accL g k).toArray⟩
theorem accL_length (g : Nat → ByteArray) (hg : ∀ i, (g i).size = 16) : ∀ k, (accL g k).length = 16 * k
  | 0 => rfl
  | k + 1 => by rw [accL, List.length_append, accL_length g hg k, data_len, hg k]; omega
theorem accT_size (g : Nat → ByteArray) (hg : ∀ i, (g i).size = 16) (k : Nat) : (accT g k).size = 16 * k := by
  rw [show (accT g k).size = (accL g k).length from by simp [accT, ByteArray.size], accL_length g hg]
theorem accT_congr {g f : Nat → ByteArray} : ∀ k, (∀ i, i < k → g i = f i) → accT g k = accT f k := by
  intro k h
  have : accL g k = accL f k := by
    induction k with
    | zero => rfl
    | succ k ih => rw [accL, accL, ih fun i hi => h i (by omega), h k (by omega)]
  rw [accT, accT, this]

/-- What a text's digits are told of; a signature, the ends, the public value. -/
def headL (t : ByteArray) : List UInt8 := hashL (tagL 34 [t])
def recV (n : Nat) (t q : ByteArray) (i : Nat) : ByteArray := linksV n i (dig (headL t) i) (15 - dig (headL t) i) (q.extract (16 * i) (16 * i + 16))
def recT (n : Nat) (t q : ByteArray) : ByteArray := tagS 35 [accT (recV n t q) 18]
theorem cut_size (q : ByteArray) (i : Nat) (hq : q.size = 288) (hi : i < 18) : (q.extract (16 * i) (16 * i + 16)).size = 16 := by
  rw [ByteArray.size_extract, hq]; omega
end Go.Proofs.YtiblkfkeifnpaaaGreatDoor

namespace Go.Proofs.YtiblkfkeifnpaaaGreatDoor
open Go.RowKit

/-- The node over two others; the nodes of a height; the ID. -/
def nodeV (a b : ByteArray) : ByteArray := tagS 37 [a, b]
def idV (h : Nat) (t : ByteArray) : ByteArray := tagS 38 [by1 h, t]
theorem nodeV_size (a b : ByteArray) : (nodeV a b).size = 32 := tagS_size _ _
/-- Texts of 32 bytes one behind the other. -/
theorem accL32 (g : Nat → ByteArray) (hg : ∀ i, (g i).size = 32) : ∀ k, (accL g k).length = 32 * k
  | 0 => rfl
  | k + 1 => by rw [accL, List.length_append, accL32 g hg k, data_len, hg k]; omega
/-- What comes out of a leaf and the texts beside. -/
def upV (leaf : ByteArray) (n : Nat) (q : ByteArray) : Nat → ByteArray
  | 0 => leaf
  | j + 1 => if n / 2 ^ j % 2 = 0 then nodeV (upV leaf n q j) (q.extract (32 * j) (32 * j + 32)) else nodeV (q.extract (32 * j) (32 * j + 32)) (upV leaf n q j)
theorem upV_size (leaf : ByteArray) (n : Nat) (q : ByteArray) (hl : leaf.size = 32) : ∀ j, (upV leaf n q j).size = 32
  | 0 => hl
  | _ + 1 => by rw [upV]; split <;> exact nodeV_size _ _
/-- What a signature's bytes say. -/
def sgH (q : ByteArray) : Nat := (q.data.toList.getD 0 0).toNat
def sgN (q : ByteArray) : Nat := (q.data.toList.getD 1 0).toNat * 256 + (q.data.toList.getD 2 0).toNat
def sgO (q : ByteArray) : ByteArray := q.extract 3 291
def sgB (q : ByteArray) : ByteArray := q.extract 291 q.size
def sgOk (q : ByteArray) : Bool := decide (291 ≤ q.size) && (decide (sgH q ≤ 4) && (decide (q.size = 291 + 32 * sgH q) && decide (sgN q < 2 ^ sgH q)))
theorem sgOk_iff (q : ByteArray) : sgOk q = true ↔ sgH q ≤ 4 ∧ q.size = 291 + 32 * sgH q ∧ sgN q < 2 ^ sgH q := by
  simp only [sgOk, Bool.and_eq_true, decide_eq_true_eq]
  omega
/-- What Verify answers, and Number. -/
def verE (id t q : ByteArray) : Int := if sgOk q then (if idV (sgH q) (upV (recT (sgN q) t (sgO q)) (sgN q) (sgB q) (sgH q)) = id then 0 else 9) else 3
end Go.Proofs.YtiblkfkeifnpaaaGreatDoor
