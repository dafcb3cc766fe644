/- Walk of a digest's finish. -/
import Derived.Test.YthkfefkcjcgfkaaGreatDoorWa4
set_option linter.all false
namespace Go.Proofs.YthkfefkcjcgfkaaGreatDoor
open Go.RowKit

theorem add_any (b : Nat) (m : List UInt8) (s : ByteArray) (w : World) (hD : DigIs w b m) (hK : KIs w) (hsz : m.length + s.size ≤ 4611686018427387904) :
    Calls Tryz.prog 148 #[.pointer (some ⟨b, 0, none⟩), .string s] w fun e w' => e = .returned (.tuple #[]) ∧ DigIs w' b (m ++ s.data.toList) ∧ KIs w' ∧ Box (Save w.heap.size b w w') := by
  refine (add_some b m s w hD hK hsz).mono fun e w' ⟨he, hA, hS⟩ => ⟨he, ⟨.inl ?_⟩, hK.save hS hK.lt (hK.apart' hD), ⟨hS⟩⟩
  rw [List.length_append, data_len]; exact hA
theorem DigIs.size {w : World} {b : Nat} {m : List UInt8} (h : DigIs w b m) : w.cell? ⟨b, 72, none⟩ = some (.int .i64 (m.length : Int)) := by
  obtain hA | ⟨rfl, st, bl, hb, hB⟩ := h.ex
  · obtain ⟨k, u, bl, H⟩ := hA.open; exact H.size
  · rw [hB.cell, dcells_size _ _ _ hb]; rfl

theorem DigIs.lt {w : World} {b : Nat} {m : List UInt8} (h : DigIs w b m) : b < w.heap.size := block_lt_of_cell h.size
theorem DigIs.below {w w' : World} {b : Nat} {m : List UInt8} (h : DigIs w b m) (hb : Below w.heap.size w w') : DigIs w' b m := by
  have hlt := h.lt
  obtain ⟨⟨k, u, bl, h1, h2, h3, h4, hB⟩⟩ | ⟨rfl, st, bl, h1, hB⟩ := h.ex
  · exact ⟨.inl ⟨k, u, bl, h1, h2, h3, h4, hB.below hb hlt⟩⟩
  · exact ⟨.inr ⟨rfl, st, bl, h1, hB.below hb hlt⟩⟩
theorem DigK.words {w : World} {b : Nat} {c : List UInt8} {N k u : Nat} {bl : List UInt8} (h : DigK w b c N k u bl) (i : Nat) (hi : i < 8) :
    w.cell? ⟨b, i, none⟩ = (stateAt c k).cells[i]? := by
  rw [h.blk.cell, dcells, List.getElem?_append_left (by rw [S8.cells_length]; omega)]
/-- The bytes that are laid behind a text. -/
def padLit : ByteArray := { data := #[128, 0, 0, 0, 0, 0, 0, 0, 0, 0, 0, 0, 0, 0, 0, 0, 0, 0, 0, 0, 0, 0, 0, 0, 0, 0, 0, 0, 0, 0, 0, 0, 0, 0, 0, 0, 0, 0, 0, 0, 0, 0, 0, 0, 0, 0, 0, 0, 0, 0, 0, 0, 0, 0, 0, 0, 0, 0, 0, 0, 0, 0, 0, 0, 0] }
theorem pad_data : padLit.data.toList = 128 :: List.replicate 64 0 := rfl
theorem pad_take (z : Nat) (h : z ≤ 63) : (padLit.extract 0 (1 + z)).data.toList = 128 :: List.replicate z 0 := by
  rw [ByteArray.data_extract, Array.toList_extract, List.extract_eq_take_drop, List.drop_zero, pad_data, show 1 + z - 0 = z + 1 by omega, List.take_succ_cons, List.take_replicate, Nat.min_eq_left (by omega)]
theorem pad_size (z : Nat) (h : z ≤ 63) : (padLit.extract 0 (1 + z)).size = z + 1 := by
  rw [← data_len, pad_take z h]; simp
def be4 (x : BitVec 32) : List UInt8 := (bytes4 x).map fun n => UInt8.ofNat n.toNat
theorem four_data (x : BitVec 32) : (strOfNums (bytes4 x)).data.toList = be4 x := rfl
theorem be4_length (x : BitVec 32) : (be4 x).length = 4 := rfl
theorem four_size (x : BitVec 32) : (strOfNums (bytes4 x)).size = 4 := rfl

/-- 32 zeros, written out as a walk writes them. -/
def zeros32 : Array Value := #[Value.int IntKind.u8 0, Value.int IntKind.u8 0, Value.int IntKind.u8 0, Value.int IntKind.u8 0, Value.int IntKind.u8 0, Value.int IntKind.u8 0, Value.int IntKind.u8 0, Value.int IntKind.u8 0, Value.int IntKind.u8 0, Value.int IntKind.u8 0, Value.int IntKind.u8 0, Value.int IntKind.u8 0, Value.int IntKind.u8 0, Value.int IntKind.u8 0, Value.int IntKind.u8 0, Value.int IntKind.u8 0, Value.int IntKind.u8 0, Value.int IntKind.u8 0, Value.int IntKind.u8 0, Value.int IntKind.u8 0, Value.int IntKind.u8 0, Value.int IntKind.u8 0, Value.int IntKind.u8 0, Value.int IntKind.u8 0, Value.int IntKind.u8 0, Value.int IntKind.u8 0, Value.int IntKind.u8 0, Value.int IntKind.u8 0, Value.int IntKind.u8 0, Value.int IntKind.u8 0, Value.int IntKind.u8 0, Value.int IntKind.u8 0]
/-- What has been laid of a hash after i words. -/
def outAt (st : S8) (i : Nat) : List UInt8 := (st.list.take i).flatMap be4 ++ List.replicate (32 - 4 * i) 0
theorem outAt_zero (st : S8) : ((outAt st 0).map yc).toArray = zeros32 := rfl
theorem outAt_step (st : S8) (i : Nat) (hi : i < 8) : spl ((outAt st i).map yc) (4 * i) ((be4 (st.list.getD i 0)).map yc) = (outAt st (i + 1)).map yc := by
  obtain rfl | rfl | rfl | rfl | rfl | rfl | rfl | rfl : i = 0 ∨ i = 1 ∨ i = 2 ∨ i = 3 ∨ i = 4 ∨ i = 5 ∨ i = 6 ∨ i = 7 := by omega
  all_goals rfl
theorem outAt_length (st : S8) (i : Nat) (hi : i ≤ 8) : (outAt st i).length = 32 := by
  obtain rfl | rfl | rfl | rfl | rfl | rfl | rfl | rfl | rfl : i = 0 ∨ i = 1 ∨ i = 2 ∨ i = 3 ∨ i = 4 ∨ i = 5 ∨ i = 6 ∨ i = 7 ∨ i = 8 := by omega
  all_goals rfl
theorem index_any (st : S8) (i : Nat) (hi : i < 8) (w : World) : (Instr.index 166 (.agg #[Value.int IntKind.u32 (U st.a), Value.int IntKind.u32 (U st.b), Value.int IntKind.u32 (U st.c),
    Value.int IntKind.u32 (U st.d), Value.int IntKind.u32 (U st.e), Value.int IntKind.u32 (U st.f), Value.int IntKind.u32 (U st.g), Value.int IntKind.u32 (U st.h)]) (.int .i64 (i : Int))).run Tryz.prog w = .ok (.int .u32 (U (st.list.getD i 0))) w := by
  obtain rfl | rfl | rfl | rfl | rfl | rfl | rfl | rfl : i = 0 ∨ i = 1 ∨ i = 2 ∨ i = 3 ∨ i = 4 ∨ i = 5 ∨ i = 6 ∨ i = 7 := by omega
  all_goals kernel_rfl
theorem len_out : Tryz.prog.arrayLen 186 = 32 := by kernel_rfl
theorem elem_out : Tryz.prog.elem 186 = 5 := by kernel_rfl
theorem slice_out (w : World) (b u : Nat) (hu : u < 32) :
    (Instr.sliceAt 186 (.pointer (some ⟨b, 0, none⟩)) (some (.int .i64 (u : Int))) none none).run Tryz.prog w = .ok (.slice (some ⟨b, u, none⟩) (32 - u) (32 - u)) w := by
  rw [run_sliceAt_array_l w 186 ⟨b, 0, none⟩ (by rw [len_out, elem_out]; exact Tryz.underlying186) .i64 u (by omega) (by rw [len_out]; omega), len_out, elem_out, size_u8]
  have : ¬ 32 = u := by omega
  simp [Result.andThen, slicedAt, this, Addr.add]
  intro h; exact h.symm

theorem _root_.Go.Proofs.YthkfefkcjcgfkaaGreatDoor.Save.thenS {a w c : World} {b : Nat} (h : Save a.heap.size b a w) (k : Save w.heap.size b w c) : Save a.heap.size b a c := h.trans (k.mono h.size)
theorem _root_.Go.Proofs.YthkfefkcjcgfkaaGreatDoor.Save.thenB {a w c : World} {b : Nat} (h : Save a.heap.size b a w) (k : Below w.heap.size w c) : Save a.heap.size b a c := h.trans (Save.of_below (k.mono h.size))
/-- A text with what is laid behind it; its hash. -/
def padded (m : List UInt8) : List UInt8 := m ++ 128 :: List.replicate ((119 - m.length % 64) % 64) 0 ++ be4 (BitVec.ofNat 32 (m.length * 8 / 4294967296)) ++ be4 (BitVec.ofNat 32 (m.length * 8))
def hashL (m : List UInt8) : List UInt8 := (stateAt (padded m) ((padded m).length / 64)).list.flatMap be4
def hashOf (m : List UInt8) : ByteArray := ⟨(hashL m).toArray⟩
theorem Y_back (l : List UInt8) : strOfNums (l.map Y) = ⟨l.toArray⟩ := by
  unfold strOfNums
  have : ((l.map Y).map fun n => UInt8.ofNat n.toNat) = l := by
    rw [List.map_map]
    conv => rhs; rw [← List.map_id l]
    refine List.map_congr_left fun x _ => ?_
    show UInt8.ofNat (Y x).toNat = x
    unfold Y
    rw [Int.toNat_natCast, UInt8.ofNat_toNat]
  rw [this]
theorem outAt_end (st : S8) : outAt st 8 = st.list.flatMap be4 := by
  rw [outAt, List.take_of_length_le (by simp [S8.list]), show 32 - 4 * 8 = 0 by rfl, List.replicate_zero, List.append_nil]
theorem slice_all (w : World) (b : Nat) :
    (Instr.sliceAt 186 (.pointer (some ⟨b, 0, none⟩)) none none none).run Tryz.prog w = .ok (.slice (some ⟨b, 0, none⟩) 32 32) w := by
  rw [run_sliceAt_array_all w 186 ⟨b, 0, none⟩ (by rw [len_out, elem_out]; exact Tryz.underlying186), len_out, elem_out, size_u8]
  simp [Result.andThen, slicedAt, Addr.add]
theorem hi_of (N : Nat) (x : BitVec 32) (h : (N : Int) * 8 / 4294967296 = U x) : x = BitVec.ofNat 32 (N * 8 / 4294967296) := by
  apply BitVec.eq_of_toNat_eq
  rw [BitVec.toNat_ofNat]
  have := x.isLt
  unfold U at h; omega
theorem lo_of (N : Nat) (x : BitVec 32) (h : (N : Int) * 8 % 4294967296 = U x) : x = BitVec.ofNat 32 (N * 8) := by
  apply BitVec.eq_of_toNat_eq
  rw [BitVec.toNat_ofNat]
  unfold U at h; omega
/-- The end: the text of the row. -/
theorem out_text {w : World} {b : Nat} {l : List UInt8} (h : Blk w b (l.map yc) 186) (hl : l.length = 32) :
    (convert 63 9 (.slice (some ⟨b, 0, none⟩) 32 32)).run Tryz.prog w = .ok (.string ⟨l.toArray⟩) w := by
  have := run_convert_bytes_arg (P := Tryz.prog) w 63 5 Tryz.underlying63 Tryz.underlying5 b 0 32 32 (l.map Y) (by simp [hl])
    (fun i hi => by rw [Nat.zero_add, h.cell, List.getElem?_map]; simp [hl, hi, yc, List.getD]) 9 Tryz.underlying9
  rw [Y_back] at this; exact this

set_option maxHeartbeats 800000 in
set_option maxRecDepth 100000 in
theorem finish_any (b : Nat) (m : List UInt8) (w : World) (hD : DigIs w b m) (hK : KIs w) (hsz : m.length ≤ 1152921504606846976) :
    Calls Tryz.prog 158 #[.pointer (some ⟨b, 0, none⟩)] w fun e w' => e = .returned (.string (hashOf m)) ∧ Save w.heap.size b w w' := by
  have c72 := hD.size
  obtain ⟨N, hN⟩ : ∃ N, m.length = N := ⟨_, rfl⟩
  obtain ⟨z, hz⟩ : ∃ z, (119 - N % 64) % 64 = z := ⟨_, rfl⟩
  have hz1 : z ≤ 63 := by omega
  have e1 : ((119 : Int) - (N : Int) % 64) % 64 = (z : Int) := by omega
  rw [hN] at c72 hsz
  replace hN := Box.mk hN
  replace hz := Box.mk hz
  go_enter Tryz.func158, Tryz.ntmps158
  go_wp2_with fail
  have HP := pad_take z hz1
  have HZ := pad_size z hz1
  have hA1 := add_any b m (padLit.extract 0 (1 + z)) w hD hK (by rw [HZ, hN.out]; omega)
  rw [HP] at hA1
  replace HP := Box.mk HP
  replace HZ := Box.mk HZ
  clear hD hK c72
  refine hA1.mono ?_
  clear hA1
  rintro e w1 ⟨rfl, hD1, hK1, hS1⟩
  go_wp2_with fail
  obtain ⟨hi, ehi⟩ : ∃ x : BitVec 32, (N : Int) * 8 / 4294967296 = U x := ⟨BitVec.ofNat 32 (N * 8 / 4294967296), by rw [U, BitVec.toNat_ofNat]; omega⟩
  rw [ehi]
  refine (four_any hi _).mono ?_
  rintro e w2 ⟨rfl, hB2⟩
  have hD2 := hD1.below hB2
  have hK2 := hK1.below hB2 hK1.lt
  replace hB2 := Box.mk hB2
  replace ehi := Box.mk ehi
  clear hD1 hK1
  go_wp2_with fail
  have hA3 := add_any b _ (strOfNums (bytes4 hi)) w2 hD2 hK2 (by simp only [List.length_append, List.length_cons, List.length_replicate, four_size, hN.out]; omega)
  rw [four_data] at hA3
  clear hD2 hK2
  refine hA3.mono ?_
  clear hA3
  rintro e w3 ⟨rfl, hD3, hK3, hS3⟩
  go_wp2_with fail
  obtain ⟨lo, elo⟩ : ∃ x : BitVec 32, (N : Int) * 8 % 4294967296 = U x := ⟨BitVec.ofNat 32 (N * 8), by rw [U, BitVec.toNat_ofNat]; omega⟩
  rw [elo]
  refine (four_any lo _).mono ?_
  rintro e w4 ⟨rfl, hB4⟩
  have hD4 := hD3.below hB4
  have hK4 := hK3.below hB4 hK3.lt
  replace hB4 := Box.mk hB4
  replace elo := Box.mk elo
  clear hD3 hK3
  go_wp2_with fail
  have hA5 := add_any b _ (strOfNums (bytes4 lo)) w4 hD4 hK4 (by simp only [List.length_append, List.length_cons, List.length_replicate, four_size, hN.out, be4_length]; omega)
  rw [four_data] at hA5
  clear hD4 hK4
  refine hA5.mono ?_
  clear hA5
  rintro e w5 ⟨rfl, hD5, hK5, hS5⟩
  have hD6 := (hD5.at (by simp)).open
  obtain ⟨k, u, bl, hD7⟩ := hD6
  obtain ⟨st, hst⟩ : ∃ st, stateAt (m ++ 128 :: List.replicate z 0 ++ be4 hi ++ be4 lo) k = st := ⟨_, rfl⟩
  have c0 := hD7.words 0 (by omega)
  have c1 := hD7.words 1 (by omega)
  have c2 := hD7.words 2 (by omega)
  have c3 := hD7.words 3 (by omega)
  have c4 := hD7.words 4 (by omega)
  have c5 := hD7.words 5 (by omega)
  have c6 := hD7.words 6 (by omega)
  have c7 := hD7.words 7 (by omega)
  have hlt := hD5.lt
  replace hD7 := Box.mk (And.intro hD7.len hD7.lt)
  rw [hst] at c0 c1 c2 c3 c4 c5 c6 c7
  replace hst := Box.mk hst
  simp only [S8.cells, S8.list, List.map_cons, List.getElem?_cons_zero, List.getElem?_cons_succ] at c0 c1 c2 c3 c4 c5 c6 c7
  clear hD5
  go_wp2_with fail
  go_loopw [7, 8, 40] (fun _ _ q wr => ∃ i : Nat, i ≤ 8 ∧ q = .int .i64 i ∧ Blk wr w5.heap.size ((outAt st i).map yc) 186 ∧ Below w5.heap.size w5 wr) (fun _ _ q _ => 8 - (intOf q).toNat)
  case atStart => exact ⟨0, by omega, rfl, by (have := Blk.new w5 ((outAt st 0).map yc) 186; rw [outAt_zero] at this; exact this), (Below.refl _ _).alloc (Nat.le_refl _) _⟩
  case round =>
    obtain ⟨i, hi9, rfl, hO, hBW⟩ := hrel
    clear c0 c1 c2 c3 c4 c5 c6 c7
    by_cases hi8 : i < 8
    · have hix := index_any st i hi8 wr
      obtain ⟨x, hx⟩ : ∃ x, st.list.getD i 0 = x := ⟨_, rfl⟩
      rw [hx] at hix
      replace hx := Box.mk hx
      go_wp2_with fail
      refine region_quiet_tail (C := fun w' => Below wr.heap.size wr w') 5 (by kernel_rfl) (by kernel_rfl) (Below.refl _ _).drew ?_
      simp only [List.take_succ_cons, List.take_zero, List.drop_succ_cons, List.drop_zero]
      have hsl := fun w => slice_out w w5.heap.size (4 * i) (by omega)
      simp only [show ((4 * i : Nat) : Int) = 4 * (i : Int) by omega] at hsl
      repeat (go_big_quiet_step (first | exact fun _ => rfl | (intro hw; refine (four_any _ _).mono ?_; rintro e w'' ⟨rfl, h⟩; exact ⟨rfl, hw.trans (h.mono hw.size)⟩)))
      refine wpQuiet_nil ?_
      intro w6 hB6
      have hO6 := hO.below hB6 hO.lt
      have hfit : 4 * i + Nat.min (strOfNums (bytes4 x)).size (32 - 4 * i) ≤ ((outAt st i).map yc).length := by
        rw [List.length_map, outAt_length st i hi9, four_size, show Nat.min 4 (32 - 4 * i) = 4 from Nat.min_eq_left (by omega)]; omega
      have hmn := Box.mk (show Nat.min (strOfNums (bytes4 x)).size (32 - 4 * i) = 4 by rw [four_size]; exact Nat.min_eq_left (by omega))
      replace hfit := Box.mk hfit
      clear hsl hix hO
      go_wp2_with (refine wpList_copy_str rfl (.tmp 46) (.tmp 48) 63 9 rfl 5 Tryz.underlying63 info_u8 w5.heap.size (4 * i) (32 - 4 * i) (32 - 4 * i) (strOfNums (bytes4 x)) rfl rfl _ 186 hO6 hfit.out ?_; intro w7 hB7 hS7; rw [hmn.out] at hB7 ⊢)
      have hm : 8 - (intOf (Value.int IntKind.i64 (↑i + 1))).toNat < 8 - (intOf (Value.int IntKind.i64 ↑i)).toNat := by simp [intOf]; omega
      refine ⟨⟨i + 1, by omega, by go_num, ?_, ?_⟩, hm⟩
      · have h7 := hB7.out
        rw [← outAt_step st i hi8, hx.out]
        exact h7
      · have h1 : w5.heap.size ≤ wr.heap.size := hBW.size
        exact hBW.trans ((hB6.mono h1).trans ((hS7.out w5.heap.size).below (Nat.le_refl _)))
    · obtain rfl : i = 8 := by omega
      have hsa := slice_all wr w5.heap.size
      have hcv := out_text hO (outAt_length st 8 (Nat.le_refl _))
      rw [outAt_end] at hcv
      clear hO
      go_wp2_with fail
      go_ret
      refine ⟨?_, ?_⟩
      · have h1 := hD7.out.1
        have h2 := hD7.out.2
        have h3 : (padded m).length = 64 * k + u := by
          rw [← h1, padded]; simp only [List.length_append, List.length_cons, List.length_replicate, be4_length, hN.out, hz.out]
        have h4 : (padded m).length / 64 = k := by omega
        have h5 : padded m = m ++ 128 :: List.replicate z 0 ++ be4 hi ++ be4 lo := by
          rw [padded, hN.out, hz.out, hi_of N hi ehi.out, lo_of N lo elo.out]
        have h6 : hashL m = st.list.flatMap be4 := by
          rw [hashL, h4, h5, hst.out]
        rw [hashOf, h6]; rfl
      · exact ((((hS1.out.thenB hB2.out).thenS hS3.out).thenB hB4.out).thenS hS5.out).thenB hBW
end Go.Proofs.YthkfefkcjcgfkaaGreatDoor
