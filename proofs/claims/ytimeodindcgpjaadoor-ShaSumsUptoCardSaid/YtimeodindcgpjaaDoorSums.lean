/- Walk of the law ShaSums. -/
import Derived.Test.YtimeodindcgpjaaDoorShaTag
import Derived.Test.YtimeodindcgpjaaDoorHas
namespace Go.Proofs.YtimeodindcgpjaaDoor
open Go.RowKit

theorem PartsAt.below {w w' : World} {v : Value} {ps : List ByteArray} (h : PartsAt w v ps) (hb : Below w.heap.size w w') : PartsAt w' v ps := by
  obtain ⟨a, cap, rfl, h1⟩ := h.ex
  refine ⟨a, cap, rfl, fun h0 => ?_⟩
  obtain ⟨blk, off, rfl, hlt, hc⟩ := h1 h0
  exact ⟨blk, off, rfl, Nat.lt_of_lt_of_le hlt hb.size, fun i hi => by rw [hb.cell (p := ⟨blk, off + i, none⟩) hlt]; exact hc i hi⟩

set_option maxHeartbeats 1600000 in
set_option maxRecDepth 100000 in
theorem law_sums (x : UInt8) (a : Option Addr) (cap : Nat) (ps : List ByteArray) (w : World) (hv : PartsAt w (.slice a ps.length cap) ps) (hK : KIs w) (hf : (flat ps).length ≤ 1048576) (hsz : (tagL x ps).length ≤ 16777216) (hps : ps.length ≤ 1048576) :
    Calls Tryd.prog 3 #[.int .u8 (x.toNat : Int), .slice a ps.length cap] w fun e w' => e = .returned (.bool true) ∧ Below w.heap.size w w' := by
  have hH := hashes_any w hK
  replace hK := Box.mk hK
  replace hf := Box.mk hf
  replace hsz := Box.mk hsz
  obtain ⟨n, hn⟩ : ∃ n, ps.length = n := ⟨_, rfl⟩
  rw [hn] at hv
  rw [hn]
  replace hps := Box.mk hps
  replace hn := Box.mk hn
  go_enter Tryd.func3, Tryd.ntmps3
  go_wp2_with fail
  refine hH.mono ?_
  rintro e w1 ⟨rfl, hb1⟩
  clear hH
  have hK1 := Box.mk (hK.out.below hb1 hK.out.lt)
  have hv1 := Box.mk (hv.below hb1)
  replace hb1 := Box.mk hb1
  clear hv
  go_wp2_with fail
  refine (sum_parts _ ps w1 hv1.out hK1.out (by have := hf.out; omega) (by have := hps.out; omega)).mono ?_
  rintro e w2 ⟨rfl, hb2⟩
  have hK2 := Box.mk (hK1.out.below hb2 hK1.out.lt)
  have hv2 := Box.mk (hv1.out.below hb2)
  replace hb2 := Box.mk hb2
  go_wp2_with fail
  refine (rsum_parts _ ps w2 hv2.out (by have := hf.out; omega) (by have := hps.out; omega)).mono ?_
  rintro e w3 ⟨rfl, hb3⟩
  have hK3 := Box.mk (hK2.out.below hb3 hK2.out.lt)
  have hv3 := Box.mk (hv2.out.below hb3)
  replace hb3 := Box.mk hb3
  go_wp2_with fail
  refine (stag_parts x _ ps w3 hv3.out hK3.out hsz.out (by have := hps.out; omega)).mono ?_
  rintro e w4 ⟨rfl, hb4⟩
  have hv4 := Box.mk (hv3.out.below hb4)
  replace hb4 := Box.mk hb4
  go_wp2_with fail
  refine (rtag_parts x _ ps w4 hv4.out hsz.out (by have := hps.out; omega)).mono ?_
  rintro e w5 ⟨rfl, hb5⟩
  replace hb5 := Box.mk hb5
  go_wp2_with fail
  go_returns
  refine ⟨rfl, ?_⟩
  have z1 := hb1.out.size
  have z2 := hb2.out.size
  have z3 := hb3.out.size
  have z4 := hb4.out.size
  exact (((hb1.out.trans (hb2.out.mono (by omega))).trans (hb3.out.mono (by omega))).trans (hb4.out.mono (by omega))).trans (hb5.out.mono (by omega))
end Go.Proofs.YtimeodindcgpjaaDoor
