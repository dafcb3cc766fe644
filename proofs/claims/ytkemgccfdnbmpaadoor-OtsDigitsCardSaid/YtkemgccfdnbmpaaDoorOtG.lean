/- Walks of the laws' common example and of OtsBack. -/
import Derived.Test.YtkemgccfdnbmpaaDoorOtF
namespace Go.Proofs.YtkemgccfdnbmpaaDoor
open Go Go.RowKit

def seedB : ByteArray := { data := #[115, 101, 101, 100] }
def textB : ByteArray := { data := #[116, 101, 120, 116] }
set_option maxHeartbeats 1600000 in
set_option maxRecDepth 100000 in
theorem signs_any (w : World) (hK : KIs w) :
    Calls Tryd.prog 6 #[] w fun e w' => e = .returned (.bool true) ∧ Below w.heap.size w w' := by
  have h1 : Calls Tryd.prog 7 #[.string seedB, .int .i64 3] w _ := public_ok seedB 3 w hK (by omega) (by decide)
  have h2 : ∀ w1, KIs w1 → Calls Tryd.prog 9 #[.string seedB, .int .i64 3, .string textB] w1 _ := fun w1 hK1 => sign_ok seedB textB 3 w1 hK1 (by omega) (by decide) (by decide)
  have h3 : ∀ w1, KIs w1 → Calls Tryd.prog 11 #[.int .i64 3, .string textB, .string (sigT seedB 3 textB)] w1 _ := fun w1 hK1 => recover_ok textB (sigT seedB 3 textB) 3 w1 hK1 (by omega) (sigT_size _ _ _) (by decide)
  rw [rec_sig] at h3
  have hs1 := pubT_size seedB 3
  have hs2 := sigT_size seedB 3 textB
  obtain ⟨p, hp⟩ : ∃ p, pubT seedB 3 = p := ⟨_, rfl⟩
  obtain ⟨q, hq⟩ : ∃ q, sigT seedB 3 textB = q := ⟨_, rfl⟩
  rw [hp] at h1 h3 hs1
  rw [hq] at h2 h3 hs2
  have hKB := Box.mk hK
  clear hK hp hq
  go_enter Tryd.func6, Tryd.ntmps6
  go_wp2_with fail
  refine h1.mono ?_
  clear h1
  rintro e w1 ⟨rfl, hb1⟩
  have hF := h2 w1 (hKB.out.below hb1 hKB.out.lt)
  replace hb1 := Box.mk hb1
  clear h2
  go_wp2_with fail
  refine hF.mono ?_
  clear hF
  rintro e w2 ⟨rfl, hb2⟩
  have hB2 : Box (Below w.heap.size w w2) := ⟨hb1.out.trans (hb2.mono hb1.out.size)⟩
  have hF := h3 w2 (hKB.out.below hB2.out hKB.out.lt)
  clear h3 hb1 hb2
  go_wp2_with fail
  refine hF.mono ?_
  clear hF
  rintro e w3 ⟨rfl, hb3⟩
  have hB3 : Box (Below w.heap.size w w3) := ⟨hB2.out.trans (hb3.mono hB2.out.size)⟩
  clear hb3 hB2
  go_wp2_with fail
  go_ret
  exact ⟨rfl, hB3.out⟩

end Go.Proofs.YtkemgccfdnbmpaaDoor
