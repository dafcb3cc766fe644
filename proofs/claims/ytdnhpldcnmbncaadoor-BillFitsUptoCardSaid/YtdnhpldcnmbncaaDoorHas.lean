/- Walk of the first line of each law of this layer: the document's first example. -/
import Derived.Test.YtdnhpldcnmbncaaDoorAbc
namespace Go.Proofs.YtdnhpldcnmbncaaDoor
open Go.RowKit

def abc : ByteArray := { data := #[97, 98, 99] }
theorem flat_one (s : ByteArray) : flat [s] = s.data.toList := by simp [flat]
theorem abc_text : (⟨(hexL (hashOf [97, 98, 99]).data.toList).toArray⟩ : ByteArray) = ⟨abcHex.toArray⟩ := by
  have : (hashOf [97, 98, 99]).data.toList = hashL [97, 98, 99] := rfl
  rw [this, abc_hex]
theorem hash_size (m : List UInt8) : (hashOf m).size = 32 := rfl

/-- sha.Sum of one text, as the walk calls it. -/
theorem sum_one (s : ByteArray) (w : World) (hK : KIs w) (hs : s.size ≤ 1152921504606846976) :
    Calls Tryd.prog 31 #[.slice (some ⟨w.heap.size, 0, none⟩) 1 1] (w.alloc (.cells #[.string s] 9)) fun e w' => e = .returned (.string (hashOf s.data.toList)) ∧ Below w.heap.size w w' := by
  have hW := (Below.refl w.heap.size w).alloc (Nat.le_refl _) (.cells #[.string s] 9)
  have hS := sum_parts (.slice (some ⟨w.heap.size, 0, none⟩) 1 1) [s] (w.alloc (.cells #[.string s] 9)) ⟨some ⟨w.heap.size, 0, none⟩, 1, rfl, fun _ => ⟨w.heap.size, 0, rfl, by simp, fun i hi => by
    obtain rfl : i = 0 := by simpa using hi
    rw [World.cell?_alloc_at _ _ _ _ rfl]; rfl⟩⟩ (hK.below hW hK.lt) (by rw [flat_one, data_len]; exact hs) (by simp)
  rw [flat_one] at hS
  exact hS.mono fun e w' ⟨he, hb⟩ => ⟨he, hW.trans (hb.mono (by simp))⟩

end Go.Proofs.YtdnhpldcnmbncaaDoor
