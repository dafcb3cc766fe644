/- Walks of the document's Tag and of sha.Tag. -/
import Derived.Test.YtdjppgmaokcgiaaGreatDoorRefD
namespace Go.Proofs.YtdjppgmaokcgiaaGreatDoor
open Go.RowKit

def tagP (s : ByteArray) : List UInt8 := be4 (BitVec.ofNat 32 s.size) ++ s.data.toList
/-- What a tagged hash is of. -/
def tagL (kind : UInt8) (ps : List ByteArray) : List UInt8 := kind :: ps.flatMap tagP
theorem tag_step (kind : UInt8) (ps : List ByteArray) (i : Nat) (h : i < ps.length) : tagL kind (ps.take i) ++ be4 (BitVec.ofNat 32 (ps.getD i ByteArray.empty).size) ++ (ps.getD i ByteArray.empty).data.toList = tagL kind (ps.take (i + 1)) := by
  rw [List.take_succ_eq_append_getElem h, tagL, tagL, List.flatMap_append]
  simp [List.getD, h, tagP]
theorem tag_part (kind : UInt8) (ps : List ByteArray) (i : Nat) (h : i < ps.length) : (tagL kind (ps.take i)).length + 4 + (ps.getD i ByteArray.empty).size ≤ (tagL kind ps).length := by
  have h1 : (tagL kind (ps.take (i + 1))).length ≤ (tagL kind ps).length := by
    conv => rhs; rw [← List.take_append_drop (i + 1) ps, tagL, List.flatMap_append, List.length_cons, List.length_append]
    rw [tagL, List.length_cons]; omega
  rw [← tag_step kind ps i h, List.length_append, List.length_append, data_len, be4_length] at h1
  exact h1
theorem own_one (w : World) (x : UInt8) : (w.alloc (.cells #[Value.int .u8 (x.toNat : Int)] 5)).ownsRow w.heap.size 5 1 (.slice (some ⟨w.heap.size, 0, none⟩) 1 1) [x].length ([x].map yc) :=
  ⟨rfl, Or.inr ⟨w.heap.size, 1, #[Value.int .u8 (x.toNat : Int)], rfl, Nat.le_refl _, heap_alloc_new w _, Nat.le_refl _, by unfold maxLen; omega, rfl, rfl⟩⟩
theorem beN_fourB (X : Nat) : beN X 4 = be4 (BitVec.ofNat 32 X) := by
  rw [be4_nat, BitVec.toNat_ofNat]
  simp only [beN, show (2 : Nat) ^ 32 = 4294967296 by decide, show (2 : Nat) ^ (8 * 3) = 16777216 by decide, show (2 : Nat) ^ (8 * 2) = 65536 by decide, show (2 : Nat) ^ (8 * 1) = 256 by decide, show (2 : Nat) ^ (8 * 0) = 1 by decide]
  rw [show X % 4294967296 / 16777216 % 256 = X / 16777216 % 256 by omega, show X % 4294967296 / 65536 % 256 = X / 65536 % 256 by omega, show X % 4294967296 / 256 % 256 = X / 256 % 256 by omega, show X % 4294967296 % 256 = X / 1 % 256 by omega]
theorem U_len (n : Nat) (h : n ≤ 4294967295) : (n : Int) = U (BitVec.ofNat 32 n) := by rw [U, BitVec.toNat_ofNat]; omega

set_option maxHeartbeats 800000 in
set_option maxRecDepth 100000 in
theorem rtag_none (x : UInt8) (a : Option Addr) (cap : Nat) (w : World) :
    Calls Tryz.prog 20 #[.int .u8 (x.toNat : Int), .slice a 0 cap] w fun e w' => e = .returned (.string (hashOf (tagL x []))) ∧ Below w.heap.size w w' := by
  have hH := rhash_any w.heap.size w (w.alloc (.cells #[Value.int .u8 (x.toNat : Int)] 5)) (.slice (some ⟨w.heap.size, 0, none⟩) 1 1) [x] ⟨own_one w x⟩ ⟨(Below.refl _ _).alloc (Nat.le_refl _) _⟩ (Nat.le_refl _) (by simp)
  go_enter Tryz.func20, Tryz.ntmps20
  go_wp2_with fail
  go_loopw [5, 6] (fun s5 q wr => s5 = .slice (some ⟨w.heap.size, 0, none⟩) 1 1 ∧ q = .int .i64 0 ∧ Box (w.alloc (.cells #[Value.int .u8 (x.toNat : Int)] 5) = wr)) (fun _ _ _ => 0)
  case atStart => exact ⟨rfl, rfl, ⟨rfl⟩⟩
  case round =>
    obtain ⟨rfl, rfl, hw⟩ := hrel
    rw [hw.out] at hH
    go_wp2_with (go_at_call 44; refine hH.mono ?_; rintro e w' ⟨rfl, hb⟩)
    go_returns
    exact ⟨rfl, hb.out⟩
set_option maxHeartbeats 1600000 in
set_option maxRecDepth 100000 in
theorem rtag_some (x : UInt8) (blk off cap : Nat) (ps : List ByteArray) (w : World) (hlt : blk < w.heap.size) (hc : ∀ i, i < ps.length → w.cell? ⟨blk, off + i, none⟩ = some (.string (ps.getD i ByteArray.empty)))
    (hsz : (tagL x ps).length ≤ 140737488354000) (hps : ps.length ≤ 16777216) :
    Calls Tryz.prog 20 #[.int .u8 (x.toNat : Int), .slice (some ⟨blk, off, none⟩) ps.length cap] w fun e w' => e = .returned (.string (hashOf (tagL x ps))) ∧ Below w.heap.size w w' := by
  have hO0 : Box ((w.alloc (.cells #[Value.int .u8 (x.toNat : Int)] 5)).ownsRow w.heap.size 5 1 (.slice (some ⟨w.heap.size, 0, none⟩) 1 1) (tagL x (ps.take 0)).length ((tagL x (ps.take 0)).map yc)) := ⟨own_one w x⟩
  have hB0 : Box (Below w.heap.size w (w.alloc (.cells #[Value.int .u8 (x.toNat : Int)] 5))) := ⟨(Below.refl _ _).alloc (Nat.le_refl _) _⟩
  replace hc := Box.mk hc
  go_enter Tryz.func20, Tryz.ntmps20
  go_wp2_with fail
  go_loopw [5, 6] (fun s5 q wr => ∃ i : Nat, i ≤ ps.length ∧ q = .int .i64 i ∧ Box (wr.ownsRow w.heap.size 5 1 s5 (tagL x (ps.take i)).length ((tagL x (ps.take i)).map yc)) ∧ Box (Below w.heap.size w wr)) (fun _ q _ => ps.length - (intOf q).toNat)
  case atStart => exact ⟨0, by omega, rfl, hO0, hB0⟩
  case round =>
    clear hO0 hB0
    obtain ⟨i, hi, rfl, hO, hB⟩ := hrel
    by_cases hlt2 : i < ps.length
    · have hcell : wr.cell? ⟨blk, off + i, none⟩ = some (.string (ps.getD i ByteArray.empty)) := by
        rw [hB.out.cell (p := ⟨blk, off + i, none⟩) hlt]; exact hc.out i hlt2
      obtain ⟨s, hs⟩ : ∃ s, ps.getD i ByteArray.empty = s := ⟨_, rfl⟩
      have hstep := tag_step x ps i hlt2
      have hpart := tag_part x ps i hlt2
      rw [hs] at hcell hstep hpart
      have hss : s.size ≤ 140737488354000 := by omega
      have hnum := fun v (hO : Box (wr.ownsRow w.heap.size 5 1 v (tagL x (ps.take i)).length ((tagL x (ps.take i)).map yc))) => number_any w.heap.size w wr v _ s.size 4 (by omega) hO hB (Nat.le_refl _) (by omega)
      rw [beN_fourB] at hnum
      have hcap : Box ((tagL x (ps.take i) ++ be4 (BitVec.ofNat 32 s.size)).length + s.size ≤ 140737488355328) := ⟨by rw [List.length_append, be4_length]; omega⟩
      replace hstep := Box.mk hstep
      replace hpart := Box.mk hpart
      clear hs
      go_wp2_with fail
      refine (hnum _ hO).mono ?_
      rintro e w2 ⟨v2, rfl, hO2, hB2, _, _⟩
      clear hnum hO
      have hcell2 : w2.cell? ⟨blk, off + i, none⟩ = some (.string s) := by
        rw [hB2.out.cell (p := ⟨blk, off + i, none⟩) hlt, ← hB.out.cell (p := ⟨blk, off + i, none⟩) hlt]; exact hcell
      clear hcell
      go_wp2_with (refine wpList_pushS rfl (.tmp 23) (.tmp 27) rfl w.heap.size _ (tagL x (ps.take i) ++ be4 (BitVec.ofNat 32 s.size)) rfl hO2 s rfl hcap.out hB2.out.size hB2 ?_; intro v3 w3 hO3 hB3)
      rw [hstep.out] at hO3
      have hm : ps.length - (intOf (Value.int IntKind.i64 (↑i + 1))).toNat < ps.length - (intOf (Value.int IntKind.i64 ↑i)).toNat := by simp [intOf]; omega
      exact ⟨⟨i + 1, by omega, by go_num, hO3, hB3⟩, hm⟩
    · obtain rfl : i = ps.length := by omega
      rw [List.take_length] at hO
      have hH := fun v (hO : Box (wr.ownsRow w.heap.size 5 1 v (tagL x ps).length ((tagL x ps).map yc))) => rhash_any w.heap.size w wr v (tagL x ps) hO hB (Nat.le_refl _) (by omega)
      go_wp2_with fail
      refine (hH _ hO).mono ?_
      rintro e w' ⟨rfl, hb⟩
      clear hH
      go_wp2_with fail
      go_returns
      exact ⟨rfl, hb.out⟩
theorem rtag_parts (x : UInt8) (v : Value) (ps : List ByteArray) (w : World) (hv : PartsAt w v ps) (hsz : (tagL x ps).length ≤ 140737488354000) (hps : ps.length ≤ 16777216) :
    Calls Tryz.prog 20 #[.int .u8 (x.toNat : Int), v] w fun e w' => e = .returned (.string (hashOf (tagL x ps))) ∧ Below w.heap.size w w' := by
  obtain ⟨a, cap, rfl, h⟩ := hv.ex
  by_cases h0 : 0 < ps.length
  · obtain ⟨blk, off, rfl, hlt, hc⟩ := h h0
    exact rtag_some x blk off cap ps w hlt hc hsz hps
  · obtain rfl : ps = [] := List.length_eq_zero_iff.1 (by omega)
    exact rtag_none x a cap w
end Go.Proofs.YtdjppgmaokcgiaaGreatDoor
