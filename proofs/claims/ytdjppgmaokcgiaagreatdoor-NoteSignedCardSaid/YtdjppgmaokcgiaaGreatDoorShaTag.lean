/- Walk of sha.Tag. -/
import Derived.Test.YtdjppgmaokcgiaaGreatDoorRefE
namespace Go.Proofs.YtdjppgmaokcgiaaGreatDoor
open Go.RowKit

def one (x : UInt8) : ByteArray := ⟨#[x]⟩
/-- The row of one byte as a text. -/
theorem one_text (w : World) (x : UInt8) : (convert 24 9 (.slice (some ⟨w.heap.size, 0, none⟩) 1 1)).run Tryz.prog (w.alloc (.cells #[Value.int .u8 (x.toNat : Int)] 5)) = .ok (.string (one x)) (w.alloc (.cells #[Value.int .u8 (x.toNat : Int)] 5)) := by
  have := own_text (l := [x]) (own_one w x)
  simpa [one] using this
theorem one_data (x : UInt8) : (one x).data.toList = [x] := rfl
theorem one_size (x : UInt8) : (one x).size = 1 := rfl

set_option maxHeartbeats 1600000 in
set_option maxRecDepth 100000 in
theorem stag_any (x : UInt8) (a : Option Addr) (cap : Nat) (ps : List ByteArray) (w : World) (blk off : Nat) (ha : 0 < ps.length → a = some ⟨blk, off, none⟩) (hlt : 0 < ps.length → blk < w.heap.size) (hc : ∀ i, i < ps.length → w.cell? ⟨blk, off + i, none⟩ = some (.string (ps.getD i ByteArray.empty)))
    (hK : KIs w) (hsz : (tagL x ps).length ≤ 16777216) (hps : ps.length ≤ 16777216) :
    Calls Tryz.prog 134 #[.int .u8 (x.toNat : Int), .slice a ps.length cap] w fun e w' => e = .returned (.string (hashOf (tagL x ps))) ∧ Below w.heap.size w w' := by
  have hW := (Below.refl w.heap.size w).alloc (Nat.le_refl _) (.cells zeros73 171)
  have hW2 := hW.alloc (by simp) (.cells #[Value.int .u8 (x.toNat : Int)] 5)
  have hD : DigIs ((w.alloc (.cells zeros73 171)).alloc (.cells #[Value.int .u8 (x.toNat : Int)] 5)) w.heap.size [] := (DigIs.new w).below ((Below.refl _ _).alloc (Nat.le_refl _) _)
  have hK1 := hK.below hW2 hK.lt
  have hA0 := add_any w.heap.size [] (one x) _ hD hK1 (by rw [one_size]; decide)
  rw [one_data] at hA0
  have hcv := one_text (w.alloc (.cells zeros73 171)) x
  rw [show (w.alloc (.cells zeros73 171)).heap.size = w.heap.size + 1 by simp] at hcv
  replace hW2 := Box.mk hW2
  replace hc := Box.mk hc
  replace ha := Box.mk ha
  replace hlt := Box.mk hlt
  clear hW hD hK1 hK
  have hz := zero_dig
  go_enter Tryz.func134, Tryz.ntmps134
  go_wp2_with fail
  refine hA0.mono ?_
  rintro e w1 ⟨rfl, hD1, hK1, hS1⟩
  have hB1 : Box (Below w.heap.size w w1) := ⟨hW2.out.trans ((hS1.out.mono (by simp; omega)).below (Nat.le_refl _))⟩
  have hD1' : DigIs w1 w.heap.size (tagL x (ps.take 0)) := hD1
  clear hA0 hcv hS1 hW2 hD1
  go_wp2_with fail
  go_loopw [7, 14] (fun _ q wr => ∃ i : Nat, i ≤ ps.length ∧ q = .int .i64 i ∧ DigIs wr w.heap.size (tagL x (ps.take i)) ∧ KIs wr ∧ Box (Below w.heap.size w wr)) (fun _ q _ => ps.length - (intOf q).toNat)
  case atStart => exact ⟨0, by omega, rfl, hD1', hK1, hB1⟩
  case round =>
    clear hD1' hK1 hB1
    obtain ⟨i, hi, rfl, hD, hKr, hB⟩ := hrel
    by_cases hlt2 : i < ps.length
    · have ha' := ha.out (by omega)
      subst ha'
      have hcell : wr.cell? ⟨blk, off + i, none⟩ = some (.string (ps.getD i ByteArray.empty)) := by
        rw [hB.out.cell (p := ⟨blk, off + i, none⟩) (hlt.out (by omega))]; exact hc.out i hlt2
      obtain ⟨s, hs⟩ : ∃ s, ps.getD i ByteArray.empty = s := ⟨_, rfl⟩
      have hstep := tag_step x ps i hlt2
      have hpart := tag_part x ps i hlt2
      rw [hs] at hcell hstep hpart
      have hss : s.size ≤ 16777216 := by omega
      have hUl := U_len s.size (by omega)
      obtain ⟨u, hu⟩ : ∃ u, BitVec.ofNat 32 s.size = u := ⟨_, rfl⟩
      rw [hu] at hstep hUl
      have hF := four_any u wr
      replace hstep := Box.mk hstep
      replace hpart := Box.mk hpart
      replace hUl := Box.mk hUl
      clear hs
      go_wp2_with fail
      rw [hUl.out]
      refine hF.mono ?_
      clear hF
      rintro e w2 ⟨rfl, hb2⟩
      have hD2 := hD.below hb2
      have hK2 := hKr.below hb2 hKr.lt
      have hA2 := add_any w.heap.size _ (strOfNums (bytes4 u)) w2 hD2 hK2 (by rw [four_size]; have := hpart.out; omega)
      rw [four_data] at hA2
      replace hb2 := Box.mk hb2
      clear hD hKr hD2 hK2
      go_wp2_with fail
      refine hA2.mono ?_
      clear hA2
      rintro e w3 ⟨rfl, hD3, hK3, hS3⟩
      have hA3 := add_any w.heap.size _ s w3 hD3 hK3 (by rw [List.length_append, be4_length]; have := hpart.out; omega)
      rw [hstep.out] at hA3
      clear hD3 hK3
      go_wp2_with fail
      refine hA3.mono ?_
      clear hA3
      rintro e w4 ⟨rfl, hD4, hK4, hS4⟩
      have hB4 : Box (Below w.heap.size w w4) := ⟨by
        have z1 := hB.out.size
        have z2 := hb2.out.size
        have z3 := hS3.out.size
        exact ((hB.out.trans (hb2.out.mono z1)).trans ((hS3.out.mono (by omega)).below (Nat.le_refl _))).trans ((hS4.out.mono (by omega)).below (Nat.le_refl _))⟩
      go_wp2_with fail
      have hm : ps.length - (intOf (Value.int IntKind.i64 (↑i + 1))).toNat < ps.length - (intOf (Value.int IntKind.i64 ↑i)).toNat := by simp [intOf]; omega
      exact ⟨⟨i + 1, by omega, by go_num, hD4, hK4, hB4⟩, hm⟩
    · obtain rfl : i = ps.length := by omega
      rw [List.take_length] at hD
      have hF := sum_some w.heap.size (tagL x ps) wr hD hKr (by omega)
      clear hD hKr
      go_wp2_with (go_at_call 149; refine hF.mono ?_; rintro e w' ⟨rfl, hb⟩)
      go_returns
      exact ⟨rfl, hB.out.trans (hb.mono hB.out.size)⟩
theorem stag_parts (x : UInt8) (v : Value) (ps : List ByteArray) (w : World) (hv : PartsAt w v ps) (hK : KIs w) (hsz : (tagL x ps).length ≤ 16777216) (hps : ps.length ≤ 16777216) :
    Calls Tryz.prog 134 #[.int .u8 (x.toNat : Int), v] w fun e w' => e = .returned (.string (hashOf (tagL x ps))) ∧ Below w.heap.size w w' := by
  obtain ⟨a, cap, rfl, h⟩ := hv.ex
  by_cases h0 : 0 < ps.length
  · obtain ⟨blk, off, rfl, hlt, hc⟩ := h h0
    exact stag_any x _ cap ps w blk off (fun _ => rfl) (fun _ => hlt) hc hK hsz hps
  · exact stag_any x a cap ps w 0 0 (fun h => absurd h h0) (fun h => absurd h h0) (fun i hi => by omega) hK hsz hps
end Go.Proofs.YtdjppgmaokcgiaaGreatDoor
