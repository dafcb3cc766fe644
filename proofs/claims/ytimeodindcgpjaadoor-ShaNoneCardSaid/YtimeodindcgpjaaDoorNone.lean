/- Walk of the law ShaNone. -/
import Derived.Test.YtimeodindcgpjaaDoorHas
namespace Go.Proofs.YtimeodindcgpjaaDoor
open Go.RowKit

set_option maxHeartbeats 800000 in
set_option maxRecDepth 100000 in
theorem none_any (s : ByteArray) (w : World) (hK : KIs w) (hs : s.size ≤ 140737488351232) :
    Calls Tryd.prog 7 #[.string s] w fun e w' => e = .returned (.bool true) ∧ Below w.heap.size w w' := by
  have hH := hashes_any w hK
  replace hK := Box.mk hK
  have hsz := Box.mk hs
  go_enter Tryd.func7, Tryd.ntmps7
  go_wp2_with fail
  refine hH.mono ?_
  rintro e w1 ⟨rfl, hb1⟩
  clear hH
  have hK1 := Box.mk (hK.out.below hb1 hK.out.lt)
  replace hb1 := Box.mk hb1
  go_wp2_with fail
  refine (add_nil s w1).mono ?_
  rintro e w2 ⟨rfl, rfl⟩
  go_wp2_with fail
  refine (len_nil w1).mono ?_
  rintro e w2 ⟨rfl, rfl⟩
  go_wp2_with fail
  refine (sum_nil w1 hK1.out).mono ?_
  rintro e w2 ⟨rfl, hb2⟩
  have hK2 := Box.mk (hK1.out.below hb2 hK1.out.lt)
  replace hb2 := Box.mk hb2
  go_wp2_with fail
  refine (sumparts_none none 0 w2 hK2.out).mono ?_
  rintro e w3 ⟨rfl, hb3⟩
  have hK3 := Box.mk (hK2.out.below hb3 hK2.out.lt)
  replace hb3 := Box.mk hb3
  go_wp2_with fail
  refine (copy_nil w3).mono ?_
  rintro e w4 ⟨rfl, rfl⟩
  go_wp2_with fail
  have hz := hash_size s.data.toList
  refine (sum_one s w3 hK3.out (by have := hsz.out; omega)).mono ?_
  rintro e w5 ⟨rfl, hb5⟩
  replace hb5 := Box.mk hb5
  go_wp2_with fail
  go_returns
  refine ⟨rfl, ?_⟩
  have h1 := hb1.out.size
  have h2 := hb2.out.size
  have h3 := hb3.out.size
  exact ((hb1.out.trans (hb2.out.mono h1)).trans (hb3.out.mono (by omega))).trans (hb5.out.mono (by omega))
end Go.Proofs.YtimeodindcgpjaaDoor
