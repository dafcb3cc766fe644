/- Walk of a digest's finish. -/
import Derived.Test.YtdjppgmaokcgiaaDoorShaE
namespace Go.Proofs.YtdjppgmaokcgiaaDoor
open Go.RowKit

/-- The bytes that are laid behind a text. -/
def padLit : ByteArray := { data := #[128, 0, 0, 0, 0, 0, 0, 0, 0, 0, 0, 0, 0, 0, 0, 0, 0, 0, 0, 0, 0, 0, 0, 0, 0, 0, 0, 0, 0, 0, 0, 0, 0, 0, 0, 0, 0, 0, 0, 0, 0, 0, 0, 0, 0, 0, 0, 0, 0, 0, 0, 0, 0, 0, 0, 0, 0, 0, 0, 0, 0, 0, 0, 0, 0] }
theorem pad_data : padLit.data.toList = 128 :: List.replicate 64 0 := rfl
theorem pad_take (z : Nat) (h : z ≤ 63) : (padLit.extract 0 (1 + z)).data.toList = 128 :: List.replicate z 0 := by
  rw [ByteArray.data_extract, Array.toList_extract, List.extract_eq_take_drop, List.drop_zero, pad_data, show 1 + z - 0 = z + 1 by omega, List.take_succ_cons, List.take_replicate, Nat.min_eq_left (by omega)]
theorem pad_size (z : Nat) (h : z ≤ 63) : (padLit.extract 0 (1 + z)).size = z + 1 := by
  rw [← data_len, pad_take z h]; simp
def be4 (x : BitVec 32) : List UInt8 := (bytes4 x).map fun n => UInt8.ofNat n.toNat
theorem four_data (x : BitVec 32) : (strOfNums (bytes4 x)).data.toList = be4 x := rfl
theorem be4_length (x : BitVec 32) : (be4 x).length = 4 := rfl
theorem four_size (x : BitVec 32) : (strOfNums (bytes4 x)).size = 4 := rfl

/-- 32 zeros, written out as a walk writes them. -/
def zeros32 : Array Value := #[Value.int IntKind.u8 0, Value.int IntKind.u8 0, Value.int IntKind.u8 0, Value.int IntKind.u8 0, Value.int IntKind.u8 0, Value.int IntKind.u8 0, Value.int IntKind.u8 0, Value.int IntKind.u8 0, Value.int IntKind.u8 0, Value.int IntKind.u8 0, Value.int IntKind.u8 0, Value.int IntKind.u8 0, Value.int IntKind.u8 0, Value.int IntKind.u8 0, Value.int IntKind.u8 0, Value.int IntKind.u8 0, Value.int IntKind.u8 0, Value.int IntKind.u8 0, Value.int IntKind.u8 0, Value.int IntKind.u8 0, Value.int IntKind.u8 0, Value.int IntKind.u8 0, Value.int IntKind.u8 0, Value.int IntKind.u8 0, Value.int IntKind.u8 0, Value.int IntKind.u8 0, Value.int IntKind.u8 0, Value.int IntKind.u8 0, Value.int IntKind.u8 0, Value.int IntKind.u8 0, Value.int IntKind.u8 0, Value.int IntKind.u8 0]
/-- What has been laid of a hash after i words. -/
def outAt (st : S8) (i : Nat) : List UInt8 := (st.list.take i).flatMap be4 ++ List.replicate (32 - 4 * i) 0
theorem outAt_zero (st : S8) : ((outAt st 0).map yc).toArray = zeros32 := rfl
theorem outAt_step (st : S8) (i : Nat) (hi : i < 8) : spl ((outAt st i).map yc) (4 * i) ((be4 (st.list.getD i 0)).map yc) = (outAt st (i + 1)).map yc := by
  obtain rfl | rfl | rfl | rfl | rfl | rfl | rfl | rfl : i = 0 ∨ i = 1 ∨ i = 2 ∨ i = 3 ∨ i = 4 ∨ i = 5 ∨ i = 6 ∨ i = 7 := by omega
  all_goals rfl
theorem outAt_length (st : S8) (i : Nat) (hi : i ≤ 8) : (outAt st i).length = 32 := by
  obtain rfl | rfl | rfl | rfl | rfl | rfl | rfl | rfl | rfl : i = 0 ∨ i = 1 ∨ i = 2 ∨ i = 3 ∨ i = 4 ∨ i = 5 ∨ i = 6 ∨ i = 7 ∨ i = 8 := by omega
  all_goals rfl
theorem len_out : Tryd.prog.arrayLen 123 = 32 := by kernel_rfl
theorem elem_out : Tryd.prog.elem 123 = 5 := by kernel_rfl
theorem slice_out (w : World) (b u : Nat) (hu : u < 32) :
    (Instr.sliceAt 123 (.pointer (some ⟨b, 0, none⟩)) (some (.int .i64 (u : Int))) none none).run Tryd.prog w = .ok (.slice (some ⟨b, u, none⟩) (32 - u) (32 - u)) w := by
  rw [run_sliceAt_array_l w 123 ⟨b, 0, none⟩ (by rw [len_out, elem_out]; exact Tryd.underlying123) .i64 u (by omega) (by rw [len_out]; omega), len_out, elem_out, size_u8]
  have : ¬ 32 = u := by omega
  simp [Result.andThen, slicedAt, this, Addr.add]
  intro h; exact h.symm

theorem _root_.Go.Proofs.YtdjppgmaokcgiaaDoor.Save.thenS {a w c : World} {b : Nat} (h : Save a.heap.size b a w) (k : Save w.heap.size b w c) : Save a.heap.size b a c := h.trans (k.mono h.size)
theorem _root_.Go.Proofs.YtdjppgmaokcgiaaDoor.Save.thenB {a w c : World} {b : Nat} (h : Save a.heap.size b a w) (k : Below w.heap.size w c) : Save a.heap.size b a c := h.trans (Save.of_below (k.mono h.size))
/-- A text with what is laid behind it; its hash. -/
def padded (m : List UInt8) : List UInt8 := m ++ 128 :: List.replicate ((119 - m.length % 64) % 64) 0 ++ be4 (BitVec.ofNat 32 (m.length * 8 / 4294967296)) ++ be4 (BitVec.ofNat 32 (m.length * 8))
def hashL (m : List UInt8) : List UInt8 := (stateAt (padded m) ((padded m).length / 64)).list.flatMap be4
def hashOf (m : List UInt8) : ByteArray := ⟨(hashL m).toArray⟩
theorem Y_back (l : List UInt8) : strOfNums (l.map Y) = ⟨l.toArray⟩ := by
  unfold strOfNums
  have : ((l.map Y).map fun n => UInt8.ofNat n.toNat) = l := by
    rw [List.map_map]
    conv => rhs; rw [← List.map_id l]
    refine List.map_congr_left fun x _ => ?_
    show UInt8.ofNat (Y x).toNat = x
    unfold Y
    rw [Int.toNat_natCast, UInt8.ofNat_toNat]
  rw [this]
theorem outAt_end (st : S8) : outAt st 8 = st.list.flatMap be4 := by
  rw [outAt, List.take_of_length_le (by simp [S8.list]), show 32 - 4 * 8 = 0 by rfl, List.replicate_zero, List.append_nil]
theorem slice_all (w : World) (b : Nat) :
    (Instr.sliceAt 123 (.pointer (some ⟨b, 0, none⟩)) none none none).run Tryd.prog w = .ok (.slice (some ⟨b, 0, none⟩) 32 32) w := by
  rw [run_sliceAt_array_all w 123 ⟨b, 0, none⟩ (by rw [len_out, elem_out]; exact Tryd.underlying123), len_out, elem_out, size_u8]
  simp [Result.andThen, slicedAt, Addr.add]
theorem hi_of (N : Nat) (x : BitVec 32) (h : (N : Int) * 8 / 4294967296 = U x) : x = BitVec.ofNat 32 (N * 8 / 4294967296) := by
  apply BitVec.eq_of_toNat_eq
  rw [BitVec.toNat_ofNat]
  have := x.isLt
  unfold U at h; omega
theorem lo_of (N : Nat) (x : BitVec 32) (h : (N : Int) * 8 % 4294967296 = U x) : x = BitVec.ofNat 32 (N * 8) := by
  apply BitVec.eq_of_toNat_eq
  rw [BitVec.toNat_ofNat]
  unfold U at h; omega
/-- The end: the text of the row. -/
theorem out_text {w : World} {b : Nat} {l : List UInt8} (h : Blk w b (l.map yc) 123) (hl : l.length = 32) :
    (convert 44 9 (.slice (some ⟨b, 0, none⟩) 32 32)).run Tryd.prog w = .ok (.string ⟨l.toArray⟩) w := by
  have := run_convert_bytes_arg (P := Tryd.prog) w 44 5 Tryd.underlying44 Tryd.underlying5 b 0 32 32 (l.map Y) (by simp [hl])
    (fun i hi => by rw [Nat.zero_add, h.cell, List.getElem?_map]; simp [hl, hi, yc, List.getD]) 9 Tryd.underlying9
  rw [Y_back] at this; exact this

end Go.Proofs.YtdjppgmaokcgiaaDoor
