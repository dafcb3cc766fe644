/- Walks of a digest's Sum, Len, Copy and New. | Walks of sha.Sum and sha.Tag over parts. -/
import Derived.Test.YthkfefkcjcgfkaaGreatDoorWa7
set_option linter.all false
namespace Go.Proofs.YthkfefkcjcgfkaaGreatDoor
open Go.RowKit

/-- The cells of a new digest, written out as a walk writes them. -/
def zeros73 : Array Value := #[Value.int IntKind.u32 0, Value.int IntKind.u32 0, Value.int IntKind.u32 0, Value.int IntKind.u32 0, Value.int IntKind.u32 0, Value.int IntKind.u32 0, Value.int IntKind.u32 0, Value.int IntKind.u32 0, Value.int IntKind.u8 0, Value.int IntKind.u8 0, Value.int IntKind.u8 0, Value.int IntKind.u8 0, Value.int IntKind.u8 0, Value.int IntKind.u8 0, Value.int IntKind.u8 0, Value.int IntKind.u8 0, Value.int IntKind.u8 0, Value.int IntKind.u8 0, Value.int IntKind.u8 0, Value.int IntKind.u8 0, Value.int IntKind.u8 0, Value.int IntKind.u8 0, Value.int IntKind.u8 0, Value.int IntKind.u8 0, Value.int IntKind.u8 0, Value.int IntKind.u8 0, Value.int IntKind.u8 0, Value.int IntKind.u8 0, Value.int IntKind.u8 0, Value.int IntKind.u8 0, Value.int IntKind.u8 0, Value.int IntKind.u8 0, Value.int IntKind.u8 0, Value.int IntKind.u8 0, Value.int IntKind.u8 0, Value.int IntKind.u8 0, Value.int IntKind.u8 0, Value.int IntKind.u8 0, Value.int IntKind.u8 0, Value.int IntKind.u8 0, Value.int IntKind.u8 0, Value.int IntKind.u8 0, Value.int IntKind.u8 0, Value.int IntKind.u8 0, Value.int IntKind.u8 0, Value.int IntKind.u8 0, Value.int IntKind.u8 0, Value.int IntKind.u8 0, Value.int IntKind.u8 0, Value.int IntKind.u8 0, Value.int IntKind.u8 0, Value.int IntKind.u8 0, Value.int IntKind.u8 0, Value.int IntKind.u8 0, Value.int IntKind.u8 0, Value.int IntKind.u8 0, Value.int IntKind.u8 0, Value.int IntKind.u8 0, Value.int IntKind.u8 0, Value.int IntKind.u8 0, Value.int IntKind.u8 0, Value.int IntKind.u8 0, Value.int IntKind.u8 0, Value.int IntKind.u8 0, Value.int IntKind.u8 0, Value.int IntKind.u8 0, Value.int IntKind.u8 0, Value.int IntKind.u8 0, Value.int IntKind.u8 0, Value.int IntKind.u8 0, Value.int IntKind.u8 0, Value.int IntKind.u8 0, Value.int IntKind.i64 0]
theorem zeros73_eq : zeros73 = (dcells ⟨0, 0, 0, 0, 0, 0, 0, 0⟩ (List.replicate 64 0) 0).toArray := rfl
theorem DigIs.new (w : World) : DigIs (w.alloc (.cells zeros73 169)) w.heap.size [] := by
  rw [zeros73_eq]
  exact ⟨.inr ⟨rfl, _, _, rfl, Blk.new w _ _⟩⟩
theorem dcells_one (st : S8) (bl : List UInt8) (n : Nat) : ∀ v ∈ dcells st bl n, v.oneCell' = true := by
  intro v hv
  simp only [dcells, List.mem_append, List.mem_map, List.mem_singleton, S8.cells] at hv
  obtain ⟨x, _, rfl⟩ | ⟨x, _, rfl⟩ | rfl := hv <;> rfl
theorem DigIs.cells {w : World} {b : Nat} {m : List UInt8} (h : DigIs w b m) : ∃ cs : List Value, Blk w b cs 169 ∧ cs.length = 73 ∧ (∀ v ∈ cs, v.oneCell' = true) ∧ Box (∀ w' b', Blk w' b' cs 169 → DigIs w' b' m) := by
  obtain ⟨⟨k, u, bl, h1, h2, h3, h4, hB⟩⟩ | ⟨rfl, st, bl, h1, hB⟩ := h.ex
  · exact ⟨_, hB, dcells_length _ _ _ h3, dcells_one _ _ _, ⟨fun w' b' h' => ⟨.inl ⟨k, u, bl, h1, h2, h3, h4, h'⟩⟩⟩⟩
  · exact ⟨_, hB, dcells_length _ _ _ h1, dcells_one _ _ _, ⟨fun w' b' h' => ⟨.inr ⟨rfl, st, bl, h1, h'⟩⟩⟩⟩
theorem zero_dig (w : World) : (zeroValue 169).run Tryz.prog w = .ok (.agg zeros73) w := by kernel_rfl
theorem info_dig : (Tryz.prog.info? 169).map (·.size) = some 73 := by kernel_rfl

set_option maxHeartbeats 400000 in
set_option maxRecDepth 100000 in
theorem sum_some (b : Nat) (m : List UInt8) (w : World) (hD : DigIs w b m) (hK : KIs w) (hsz : m.length ≤ 1152921504606846976) :
    Calls Tryz.prog 149 #[.pointer (some ⟨b, 0, none⟩)] w fun e w' => e = .returned (.string (hashOf m)) ∧ Below w.heap.size w w' := by
  obtain ⟨cs, hB, hl, h1, hAll⟩ := hD.cells
  have hB2 := hB.alloc (.cells zeros73 169)
  have hO2 : Blk (w.alloc (.cells zeros73 169)) w.heap.size (dcells ⟨0, 0, 0, 0, 0, 0, 0, 0⟩ (List.replicate 64 0) 0) 169 := Blk.new w _ _
  have hW := (Below.refl w.heap.size w).alloc (Nat.le_refl _) (.cells zeros73 169)
  have hW2 : Below w.heap.size w ((w.alloc (.cells zeros73 169)).setRow w.heap.size cs.toArray) := hW.trans ((setRow_save _ _ _ _).below (Nat.le_refl _))
  have hF := finish_any w.heap.size m _ (hAll.out _ _ (setRow_blk hO2 cs)) (hK.below hW2 hK.lt) hsz
  have hFB := hF.mono (R' := fun e w' => e = .returned (.string (hashOf m)) ∧ Below w.heap.size w w') fun e w' ⟨he, hS⟩ => ⟨he, hW2.trans ((hS.mono (by rw [size_setRow]; simp)).below (Nat.le_refl _))⟩
  have hi : (Tryz.prog.info? 169).map (·.size) = some cs.toArray.size := by rw [info_dig]; simp [hl]
  have hsz2 : zeros73.size = cs.toArray.size := by rw [show cs.toArray.size = 73 by rw [List.size_toArray]; exact hl]; rfl
  have hone : cs.toArray.all (·.oneCell') = true := by rw [List.all_toArray, List.all_eq_true]; exact h1
  replace hB2 := Box.mk hB2
  replace hO2 := Box.mk (show (w.alloc (.cells zeros73 169)).heap[w.heap.size]? = some (.cells zeros73 169 (0, 0)) from hO2)
  replace hi := Box.mk hi
  replace hsz2 := Box.mk hsz2
  replace hone := Box.mk hone
  clear hB hl h1 hAll hW hW2 hF hK hD hsz
  have hz := zero_dig
  go_enter Tryz.func149, Tryz.ntmps149
  go_wp2_with (first | (refine wpList_load_row rfl 169 (.tmp 7) rfl b rfl 169 cs.toArray (0, 0) _ hB2.out Tryz.underlying169 rfl hi.out ?_) | (refine wpList_store_row rfl 169 (.tmp 3) (.tmp 8) rfl w.heap.size cs.toArray rfl rfl 169 zeros73 hO2.out hi.out hsz2.out hone.out ?_) | (go_at_call 158; refine hFB.mono ?_; rintro e w' ⟨rfl, hb⟩))
  go_returns
  exact ⟨rfl, hb⟩
end Go.Proofs.YthkfefkcjcgfkaaGreatDoor

namespace Go.Proofs.YthkfefkcjcgfkaaGreatDoor
open Go.RowKit

/-- The bytes of all parts. -/
def flat (ps : List ByteArray) : List UInt8 := ps.flatMap fun s => s.data.toList
/-- A value that is a slice of these texts. -/
structure PartsAt (w : World) (v : Value) (ps : List ByteArray) : Prop where
  ex : ∃ (a : Option Addr) (cap : Nat), v = .slice a ps.length cap ∧ (0 < ps.length → ∃ blk off, a = some ⟨blk, off, none⟩ ∧ blk < w.heap.size ∧ ∀ i, i < ps.length → w.cell? ⟨blk, off + i, none⟩ = some (.string (ps.getD i ByteArray.empty)))
theorem flat_step (ps : List ByteArray) (i : Nat) (h : i < ps.length) : flat (ps.take i) ++ (ps.getD i ByteArray.empty).data.toList = flat (ps.take (i + 1)) := by
  rw [List.take_succ_eq_append_getElem h, flat, flat, List.flatMap_append]
  simp [List.getD, h]
theorem flat_part (ps : List ByteArray) (i : Nat) (h : i < ps.length) : (flat (ps.take i)).length + (ps.getD i ByteArray.empty).size ≤ (flat ps).length := by
  have h1 : (flat (ps.take (i + 1))).length ≤ (flat ps).length := by
    conv => rhs; rw [← List.take_append_drop (i + 1) ps, flat, List.flatMap_append, List.length_append]
    exact Nat.le_add_right _ _
  rw [← flat_step ps i h, List.length_append, data_len] at h1
  exact h1

set_option maxHeartbeats 800000 in
set_option maxRecDepth 100000 in
theorem sumparts_none (a : Option Addr) (cap : Nat) (w : World) (hK : KIs w) :
    Calls Tryz.prog 132 #[.slice a 0 cap] w fun e w' => e = .returned (.string (hashOf [])) ∧ Below w.heap.size w w' := by
  have hW := (Below.refl w.heap.size w).alloc (Nat.le_refl _) (.cells zeros73 169)
  have hF := sum_some w.heap.size [] _ (DigIs.new w) (hK.below hW hK.lt) (by simp)
  have hFB := hF.mono (R' := fun e w' => e = .returned (.string (hashOf [])) ∧ Below w.heap.size w w') fun e w' ⟨he, hS⟩ => ⟨he, hW.trans (hS.mono (by simp))⟩
  clear hW hF hK
  have hz := zero_dig
  go_enter Tryz.func132, Tryz.ntmps132
  go_wp2_with fail
  go_loopw [5, 8] (fun _ q wr => q = .int .i64 0 ∧ Box (w.alloc (.cells zeros73 169) = wr)) (fun _ _ _ => 0)
  case atStart => exact ⟨rfl, ⟨rfl⟩⟩
  case round =>
    obtain ⟨rfl, hw⟩ := hrel
    rw [hw.out] at hFB
    go_wp2_with (go_at_call 149; refine hFB.mono ?_; rintro e w' ⟨rfl, hb⟩)
    go_returns
    exact ⟨rfl, hb⟩
set_option maxHeartbeats 800000 in
set_option maxRecDepth 100000 in
theorem sumparts_some (blk off cap : Nat) (ps : List ByteArray) (w : World) (hlt : blk < w.heap.size) (hc : ∀ i, i < ps.length → w.cell? ⟨blk, off + i, none⟩ = some (.string (ps.getD i ByteArray.empty)))
    (hK : KIs w) (hsz : (flat ps).length ≤ 1152921504606846976) (hps : ps.length ≤ 4611686018427387904) :
    Calls Tryz.prog 132 #[.slice (some ⟨blk, off, none⟩) ps.length cap] w fun e w' => e = .returned (.string (hashOf (flat ps))) ∧ Below w.heap.size w w' := by
  have hW := (Below.refl w.heap.size w).alloc (Nat.le_refl _) (.cells zeros73 169)
  have hD := DigIs.new w
  have hK1 := hK.below hW hK.lt
  replace hW := Box.mk hW
  replace hc := Box.mk hc
  have hz := zero_dig
  go_enter Tryz.func132, Tryz.ntmps132
  go_wp2_with fail
  go_loopw [5, 8] (fun _ q wr => ∃ i : Nat, i ≤ ps.length ∧ q = .int .i64 i ∧ DigIs wr w.heap.size (flat (ps.take i)) ∧ KIs wr ∧ Box (Below w.heap.size w wr)) (fun _ q _ => ps.length - (intOf q).toNat)
  case atStart => exact ⟨0, by omega, rfl, hD, hK1, hW⟩
  case round =>
    clear hD hK1 hW
    obtain ⟨i, hi, rfl, hD, hKr, hB⟩ := hrel
    by_cases hlt2 : i < ps.length
    · have hcell : wr.cell? ⟨blk, off + i, none⟩ = some (.string (ps.getD i ByteArray.empty)) := by
        rw [hB.out.cell (p := ⟨blk, off + i, none⟩) hlt]; exact hc.out i hlt2
      obtain ⟨s, hs⟩ : ∃ s, ps.getD i ByteArray.empty = s := ⟨_, rfl⟩
      rw [hs] at hcell
      have hA := add_any w.heap.size (flat (ps.take i)) s wr hD hKr (by rw [← hs]; have := flat_part ps i hlt2; omega)
      have hstep := flat_step ps i hlt2
      rw [hs] at hstep
      rw [hstep] at hA
      clear hD hKr hs hstep
      replace hc := Box.mk hc
      go_wp2_with (go_at_call 148; refine hA.mono ?_; rintro e w2 ⟨rfl, hD2, hK2, hS2⟩)
      have hm : ps.length - (intOf (Value.int IntKind.i64 (↑i + 1))).toNat < ps.length - (intOf (Value.int IntKind.i64 ↑i)).toNat := by simp [intOf]; omega
      refine ⟨⟨i + 1, by omega, by go_num, hD2, hK2, ⟨?_⟩⟩, hm⟩
      exact hB.out.trans ((hS2.out.mono hB.out.size).below (Nat.le_refl _))
    · obtain rfl : i = ps.length := by omega
      rw [List.take_length] at hD
      have hF := sum_some w.heap.size (flat ps) wr hD hKr hsz
      clear hD hKr
      go_wp2_with (go_at_call 149; refine hF.mono ?_; rintro e w' ⟨rfl, hb⟩)
      go_returns
      exact ⟨rfl, hB.out.trans (hb.mono hB.out.size)⟩
theorem sum_parts (v : Value) (ps : List ByteArray) (w : World) (hv : PartsAt w v ps) (hK : KIs w) (hsz : (flat ps).length ≤ 1152921504606846976) (hps : ps.length ≤ 4611686018427387904) :
    Calls Tryz.prog 132 #[v] w fun e w' => e = .returned (.string (hashOf (flat ps))) ∧ Below w.heap.size w w' := by
  obtain ⟨a, cap, rfl, h⟩ := hv.ex
  by_cases h0 : 0 < ps.length
  · obtain ⟨blk, off, rfl, hlt, hc⟩ := h h0
    exact sumparts_some blk off cap ps w hlt hc hK hsz hps
  · obtain rfl : ps = [] := List.length_eq_zero_iff.1 (by omega)
    exact sumparts_none a cap w hK
end Go.Proofs.YthkfefkcjcgfkaaGreatDoor
