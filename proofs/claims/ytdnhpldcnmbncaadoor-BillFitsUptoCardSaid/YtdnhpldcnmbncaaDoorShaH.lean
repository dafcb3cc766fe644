/- Walks of sha.Sum and sha.Tag over parts. -/
import Derived.Test.YtdnhpldcnmbncaaDoorShaG
namespace Go.Proofs.YtdnhpldcnmbncaaDoor
open Go.RowKit

/-- The bytes of all parts. -/
def flat (ps : List ByteArray) : List UInt8 := ps.flatMap fun s => s.data.toList
/-- A value that is a slice of these texts. -/
structure PartsAt (w : World) (v : Value) (ps : List ByteArray) : Prop where
  ex : ∃ (a : Option Addr) (cap : Nat), v = .slice a ps.length cap ∧ (0 < ps.length → ∃ blk off, a = some ⟨blk, off, none⟩ ∧ blk < w.heap.size ∧ ∀ i, i < ps.length → w.cell? ⟨blk, off + i, none⟩ = some (.string (ps.getD i ByteArray.empty)))
theorem flat_step (ps : List ByteArray) (i : Nat) (h : i < ps.length) : flat (ps.take i) ++ (ps.getD i ByteArray.empty).data.toList = flat (ps.take (i + 1)) := by
  rw [List.take_succ_eq_append_getElem h, flat, flat, List.flatMap_append]
  simp [List.getD, h]
theorem flat_part (ps : List ByteArray) (i : Nat) (h : i < ps.length) : (flat (ps.take i)).length + (ps.getD i ByteArray.empty).size ≤ (flat ps).length := by
  have h1 : (flat (ps.take (i + 1))).length ≤ (flat ps).length := by
    conv => rhs; rw [← List.take_append_drop (i + 1) ps, flat, List.flatMap_append, List.length_append]
    exact Nat.le_add_right _ _
  rw [← flat_step ps i h, List.length_append, data_len] at h1
  exact h1

set_option maxHeartbeats 800000 in
set_option maxRecDepth 100000 in
theorem sumparts_none (a : Option Addr) (cap : Nat) (w : World) (hK : KIs w) :
    Calls Tryd.prog 31 #[.slice a 0 cap] w fun e w' => e = .returned (.string (hashOf [])) ∧ Below w.heap.size w w' := by
  have hW := (Below.refl w.heap.size w).alloc (Nat.le_refl _) (.cells zeros73 77)
  have hF := sum_some w.heap.size [] _ (DigIs.new w) (hK.below hW hK.lt) (by simp)
  have hFB := hF.mono (R' := fun e w' => e = .returned (.string (hashOf [])) ∧ Below w.heap.size w w') fun e w' ⟨he, hS⟩ => ⟨he, hW.trans (hS.mono (by simp))⟩
  clear hW hF hK
  have hz := zero_dig
  go_enter Tryd.func31, Tryd.ntmps31
  go_wp2_with fail
  go_loopw [5, 8] (fun _ q wr => q = .int .i64 0 ∧ Box (w.alloc (.cells zeros73 77) = wr)) (fun _ _ _ => 0)
  case atStart => exact ⟨rfl, ⟨rfl⟩⟩
  case round =>
    obtain ⟨rfl, hw⟩ := hrel
    rw [hw.out] at hFB
    go_wp2_with (go_at_call 58; refine hFB.mono ?_; rintro e w' ⟨rfl, hb⟩)
    go_returns
    exact ⟨rfl, hb⟩
set_option maxHeartbeats 800000 in
set_option maxRecDepth 100000 in
theorem sumparts_some (blk off cap : Nat) (ps : List ByteArray) (w : World) (hlt : blk < w.heap.size) (hc : ∀ i, i < ps.length → w.cell? ⟨blk, off + i, none⟩ = some (.string (ps.getD i ByteArray.empty)))
    (hK : KIs w) (hsz : (flat ps).length ≤ 1152921504606846976) (hps : ps.length ≤ 4611686018427387904) :
    Calls Tryd.prog 31 #[.slice (some ⟨blk, off, none⟩) ps.length cap] w fun e w' => e = .returned (.string (hashOf (flat ps))) ∧ Below w.heap.size w w' := by
  have hW := (Below.refl w.heap.size w).alloc (Nat.le_refl _) (.cells zeros73 77)
  have hD := DigIs.new w
  have hK1 := hK.below hW hK.lt
  replace hW := Box.mk hW
  replace hc := Box.mk hc
  have hz := zero_dig
  go_enter Tryd.func31, Tryd.ntmps31
  go_wp2_with fail
  go_loopw [5, 8] (fun _ q wr => ∃ i : Nat, i ≤ ps.length ∧ q = .int .i64 i ∧ DigIs wr w.heap.size (flat (ps.take i)) ∧ KIs wr ∧ Box (Below w.heap.size w wr)) (fun _ q _ => ps.length - (intOf q).toNat)
  case atStart => exact ⟨0, by omega, rfl, hD, hK1, hW⟩
  case round =>
    clear hD hK1 hW
    obtain ⟨i, hi, rfl, hD, hKr, hB⟩ := hrel
    by_cases hlt2 : i < ps.length
    · have hcell : wr.cell? ⟨blk, off + i, none⟩ = some (.string (ps.getD i ByteArray.empty)) := by
        rw [hB.out.cell (p := ⟨blk, off + i, none⟩) hlt]; exact hc.out i hlt2
      obtain ⟨s, hs⟩ : ∃ s, ps.getD i ByteArray.empty = s := ⟨_, rfl⟩
      rw [hs] at hcell
      have hA := add_any w.heap.size (flat (ps.take i)) s wr hD hKr (by rw [← hs]; have := flat_part ps i hlt2; omega)
      have hstep := flat_step ps i hlt2
      rw [hs] at hstep
      rw [hstep] at hA
      clear hD hKr hs hstep
      replace hc := Box.mk hc
      go_wp2_with (go_at_call 57; refine hA.mono ?_; rintro e w2 ⟨rfl, hD2, hK2, hS2⟩)
      have hm : ps.length - (intOf (Value.int IntKind.i64 (↑i + 1))).toNat < ps.length - (intOf (Value.int IntKind.i64 ↑i)).toNat := by simp [intOf]; omega
      refine ⟨⟨i + 1, by omega, by go_num, hD2, hK2, ⟨?_⟩⟩, hm⟩
      exact hB.out.trans ((hS2.out.mono hB.out.size).below (Nat.le_refl _))
    · obtain rfl : i = ps.length := by omega
      rw [List.take_length] at hD
      have hF := sum_some w.heap.size (flat ps) wr hD hKr hsz
      clear hD hKr
      go_wp2_with (go_at_call 58; refine hF.mono ?_; rintro e w' ⟨rfl, hb⟩)
      go_returns
      exact ⟨rfl, hB.out.trans (hb.mono hB.out.size)⟩
theorem sum_parts (v : Value) (ps : List ByteArray) (w : World) (hv : PartsAt w v ps) (hK : KIs w) (hsz : (flat ps).length ≤ 1152921504606846976) (hps : ps.length ≤ 4611686018427387904) :
    Calls Tryd.prog 31 #[v] w fun e w' => e = .returned (.string (hashOf (flat ps))) ∧ Below w.heap.size w w' := by
  obtain ⟨a, cap, rfl, h⟩ := hv.ex
  by_cases h0 : 0 < ps.length
  · obtain ⟨blk, off, rfl, hlt, hc⟩ := h h0
    exact sumparts_some blk off cap ps w hlt hc hK hsz hps
  · obtain rfl : ps = [] := List.length_eq_zero_iff.1 (by omega)
    exact sumparts_none a cap w hK
end Go.Proofs.YtdnhpldcnmbncaaDoor
