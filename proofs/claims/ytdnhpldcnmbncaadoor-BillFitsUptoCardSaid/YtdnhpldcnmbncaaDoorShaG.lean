/- Walks of a digest's Sum, Len, Copy and New. -/
import Derived.Test.YtdnhpldcnmbncaaDoorShaF
namespace Go.Proofs.YtdnhpldcnmbncaaDoor
open Go.RowKit

/-- The cells of a new digest, written out as a walk writes them. -/
def zeros73 : Array Value := #[Value.int IntKind.u32 0, Value.int IntKind.u32 0, Value.int IntKind.u32 0, Value.int IntKind.u32 0, Value.int IntKind.u32 0, Value.int IntKind.u32 0, Value.int IntKind.u32 0, Value.int IntKind.u32 0, Value.int IntKind.u8 0, Value.int IntKind.u8 0, Value.int IntKind.u8 0, Value.int IntKind.u8 0, Value.int IntKind.u8 0, Value.int IntKind.u8 0, Value.int IntKind.u8 0, Value.int IntKind.u8 0, Value.int IntKind.u8 0, Value.int IntKind.u8 0, Value.int IntKind.u8 0, Value.int IntKind.u8 0, Value.int IntKind.u8 0, Value.int IntKind.u8 0, Value.int IntKind.u8 0, Value.int IntKind.u8 0, Value.int IntKind.u8 0, Value.int IntKind.u8 0, Value.int IntKind.u8 0, Value.int IntKind.u8 0, Value.int IntKind.u8 0, Value.int IntKind.u8 0, Value.int IntKind.u8 0, Value.int IntKind.u8 0, Value.int IntKind.u8 0, Value.int IntKind.u8 0, Value.int IntKind.u8 0, Value.int IntKind.u8 0, Value.int IntKind.u8 0, Value.int IntKind.u8 0, Value.int IntKind.u8 0, Value.int IntKind.u8 0, Value.int IntKind.u8 0, Value.int IntKind.u8 0, Value.int IntKind.u8 0, Value.int IntKind.u8 0, Value.int IntKind.u8 0, Value.int IntKind.u8 0, Value.int IntKind.u8 0, Value.int IntKind.u8 0, Value.int IntKind.u8 0, Value.int IntKind.u8 0, Value.int IntKind.u8 0, Value.int IntKind.u8 0, Value.int IntKind.u8 0, Value.int IntKind.u8 0, Value.int IntKind.u8 0, Value.int IntKind.u8 0, Value.int IntKind.u8 0, Value.int IntKind.u8 0, Value.int IntKind.u8 0, Value.int IntKind.u8 0, Value.int IntKind.u8 0, Value.int IntKind.u8 0, Value.int IntKind.u8 0, Value.int IntKind.u8 0, Value.int IntKind.u8 0, Value.int IntKind.u8 0, Value.int IntKind.u8 0, Value.int IntKind.u8 0, Value.int IntKind.u8 0, Value.int IntKind.u8 0, Value.int IntKind.u8 0, Value.int IntKind.u8 0, Value.int IntKind.i64 0]
theorem zeros73_eq : zeros73 = (dcells ⟨0, 0, 0, 0, 0, 0, 0, 0⟩ (List.replicate 64 0) 0).toArray := rfl
theorem DigIs.new (w : World) : DigIs (w.alloc (.cells zeros73 77)) w.heap.size [] := by
  rw [zeros73_eq]
  exact ⟨.inr ⟨rfl, _, _, rfl, Blk.new w _ _⟩⟩
theorem dcells_one (st : S8) (bl : List UInt8) (n : Nat) : ∀ v ∈ dcells st bl n, v.oneCell' = true := by
  intro v hv
  simp only [dcells, List.mem_append, List.mem_map, List.mem_singleton, S8.cells] at hv
  obtain ⟨x, _, rfl⟩ | ⟨x, _, rfl⟩ | rfl := hv <;> rfl
theorem DigIs.cells {w : World} {b : Nat} {m : List UInt8} (h : DigIs w b m) : ∃ cs : List Value, Blk w b cs 77 ∧ cs.length = 73 ∧ (∀ v ∈ cs, v.oneCell' = true) ∧ Box (∀ w' b', Blk w' b' cs 77 → DigIs w' b' m) := by
  obtain ⟨⟨k, u, bl, h1, h2, h3, h4, hB⟩⟩ | ⟨rfl, st, bl, h1, hB⟩ := h.ex
  · exact ⟨_, hB, dcells_length _ _ _ h3, dcells_one _ _ _, ⟨fun w' b' h' => ⟨.inl ⟨k, u, bl, h1, h2, h3, h4, h'⟩⟩⟩⟩
  · exact ⟨_, hB, dcells_length _ _ _ h1, dcells_one _ _ _, ⟨fun w' b' h' => ⟨.inr ⟨rfl, st, bl, h1, h'⟩⟩⟩⟩
theorem zero_dig (w : World) : (zeroValue 77).run Tryd.prog w = .ok (.agg zeros73) w := by kernel_rfl
theorem info_dig : (Tryd.prog.info? 77).map (·.size) = some 73 := by kernel_rfl

set_option maxHeartbeats 400000 in
set_option maxRecDepth 100000 in
theorem sum_nil (w : World) (hK : KIs w) :
    Calls Tryd.prog 58 #[.pointer none] w fun e w' => e = .returned (.string (hashOf [])) ∧ Below w.heap.size w w' := by
  have hF := finish_any w.heap.size [] (w.alloc (.cells zeros73 77)) (DigIs.new w) (hK.below ((Below.refl _ _).alloc (Nat.le_refl _) _) hK.lt) (by simp)
  have hB := (Below.refl w.heap.size w).alloc (Nat.le_refl _) (.cells zeros73 77)
  replace hB := Box.mk hB
  have hFB := hF.mono (R' := fun e w' => e = .returned (.string (hashOf [])) ∧ Below w.heap.size w w') fun e w' ⟨he, hS⟩ => ⟨he, hB.out.trans ((hS.mono (by simp)).below (Nat.le_refl _))⟩
  clear hK hF
  have hz := zero_dig
  go_enter Tryd.func58, Tryd.ntmps58
  go_wp2_with (go_at_call 78; refine hFB.mono ?_; rintro e w' ⟨rfl, hb⟩)
  go_returns
  exact ⟨rfl, hb⟩
set_option maxHeartbeats 400000 in
set_option maxRecDepth 100000 in
theorem sum_some (b : Nat) (m : List UInt8) (w : World) (hD : DigIs w b m) (hK : KIs w) (hsz : m.length ≤ 1152921504606846976) :
    Calls Tryd.prog 58 #[.pointer (some ⟨b, 0, none⟩)] w fun e w' => e = .returned (.string (hashOf m)) ∧ Below w.heap.size w w' := by
  obtain ⟨cs, hB, hl, h1, hAll⟩ := hD.cells
  have hB2 := hB.alloc (.cells zeros73 77)
  have hO2 : Blk (w.alloc (.cells zeros73 77)) w.heap.size (dcells ⟨0, 0, 0, 0, 0, 0, 0, 0⟩ (List.replicate 64 0) 0) 77 := Blk.new w _ _
  have hW := (Below.refl w.heap.size w).alloc (Nat.le_refl _) (.cells zeros73 77)
  have hW2 : Below w.heap.size w ((w.alloc (.cells zeros73 77)).setRow w.heap.size cs.toArray) := hW.trans ((setRow_save _ _ _ _).below (Nat.le_refl _))
  have hF := finish_any w.heap.size m _ (hAll.out _ _ (setRow_blk hO2 cs)) (hK.below hW2 hK.lt) hsz
  have hFB := hF.mono (R' := fun e w' => e = .returned (.string (hashOf m)) ∧ Below w.heap.size w w') fun e w' ⟨he, hS⟩ => ⟨he, hW2.trans ((hS.mono (by rw [size_setRow]; simp)).below (Nat.le_refl _))⟩
  have hi : (Tryd.prog.info? 77).map (·.size) = some cs.toArray.size := by rw [info_dig]; simp [hl]
  have hsz2 : zeros73.size = cs.toArray.size := by rw [show cs.toArray.size = 73 by rw [List.size_toArray]; exact hl]; rfl
  have hone : cs.toArray.all (·.oneCell') = true := by rw [List.all_toArray, List.all_eq_true]; exact h1
  replace hB2 := Box.mk hB2
  replace hO2 := Box.mk (show (w.alloc (.cells zeros73 77)).heap[w.heap.size]? = some (.cells zeros73 77 (0, 0)) from hO2)
  replace hi := Box.mk hi
  replace hsz2 := Box.mk hsz2
  replace hone := Box.mk hone
  clear hB hl h1 hAll hW hW2 hF hK hD hsz
  have hz := zero_dig
  go_enter Tryd.func58, Tryd.ntmps58
  go_wp2_with (first | (refine wpList_load_row rfl 77 (.tmp 7) rfl b rfl 77 cs.toArray (0, 0) _ hB2.out Tryd.underlying77 rfl hi.out ?_) | (refine wpList_store_row rfl 77 (.tmp 3) (.tmp 8) rfl w.heap.size cs.toArray rfl rfl 77 zeros73 hO2.out hi.out hsz2.out hone.out ?_) | (go_at_call 78; refine hFB.mono ?_; rintro e w' ⟨rfl, hb⟩))
  go_returns
  exact ⟨rfl, hb⟩
end Go.Proofs.YtdnhpldcnmbncaaDoor
