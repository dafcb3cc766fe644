/- Slices of the arrays that a digest and its hash are made in. -/
import Derived.Test.YtdnhpldcnmbncaaDoorShaA
import Derived.Handy
namespace Go.Proofs.YtdnhpldcnmbncaaDoor
open Go.RowKit
theorem len_block : Tryd.prog.arrayLen 75 = 64 := by kernel_rfl
theorem elem_block : Tryd.prog.elem 75 = 5 := by kernel_rfl
theorem info_u8 : (Tryd.prog.info? 5).map (·.size) = some 1 := by kernel_rfl
theorem size_u8 (w : World) : (sizeOf 5).run Tryd.prog w = .ok 1 w := by
  have := info_u8
  cases hq : Tryd.prog.info? 5 with
  | none => rw [hq] at this; cases this
  | some i =>
    rw [hq] at this
    simp only [Option.map_some, Option.some.injEq] at this
    simp [sizeOf, typeInfo, hq, this]
theorem slice_block (w : World) (b o u : Nat) (hu : u < 64) :
    (Instr.sliceAt 75 (.pointer (some ⟨b, o, none⟩)) (some (.int .i64 (u : Int))) none none).run Tryd.prog w = .ok (.slice (some ⟨b, o + u, none⟩) (64 - u) (64 - u)) w := by
  rw [run_sliceAt_array_l w 75 ⟨b, o, none⟩ (by rw [len_block, elem_block]; exact Tryd.underlying75) .i64 u (by omega) (by rw [len_block]; omega), len_block, elem_block, size_u8]
  have : ¬ 64 = u := by omega
  simp [Result.andThen, slicedAt, this, Addr.add]
end Go.Proofs.YtdnhpldcnmbncaaDoor
