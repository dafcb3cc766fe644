/- Walk of the law TreeHashes. -/
import Derived.Test.YtdomennhoopggaaDoorMTe
namespace Go.Proofs.YtdomennhoopggaaDoor
open Go Go.RowKit

set_option maxHeartbeats 3200000 in
set_option maxRecDepth 100000 in
theorem law_hashes (s : ByteArray) (a : Option Addr) (n c : Nat) (l : List ByteArray) (w : World) (hP : PA w a n c l) (hK : KIs w) (hF : Fit l) (hs : s.size ≤ 70000000000000) :
    Calls Tryd.prog 3 #[.string s, .slice a n c] w fun e w' => e = .returned (.bool true) ∧ Below w.heap.size w w' := by
  have hH := hashes_any w hK
  have hcap := hP.cap
  have htop := hP.top
  obtain ⟨m, hm⟩ : ∃ m, min n 200 = m := ⟨_, rfl⟩
  have hmin : min (n : Int) 200 = (m : Int) := by omega
  obtain ⟨L, hL⟩ : ∃ L, l.take m = L := ⟨_, rfl⟩
  have hP2 : PA w a m c L := by rw [← hL]; exact hP.take (by omega)
  replace hF : Fit L := by rw [← hL]; exact hF.take m
  have hrs := root_size L hF
  replace hP := Box.mk hP2
  replace hK := Box.mk hK
  replace hF := Box.mk hF
  clear hP2 hL hm
  obtain ⟨u, hu⟩ : ∃ u, leafH s = u := ⟨_, rfl⟩
  obtain ⟨r, hr⟩ : ∃ r, rootL L = r := ⟨_, rfl⟩
  obtain ⟨q, hq⟩ : ∃ q, nodeH s r = q := ⟨_, rfl⟩
  rw [hr] at hrs
  go_enter Tryd.func3, Tryd.ntmps3
  go_wp2_with fail
  refine hH.mono ?_
  rintro e w1 ⟨rfl, hb3⟩
  clear hH
  replace hP := Box.mk (hP.out.here hb3)
  have hb2 := Box.mk hb3
  clear hb3
  have h1 := tleaf_any s w1 (hK.out.below hb2.out hK.out.lt) (by omega)
  rw [hu] at h1
  go_wp2_with fail
  refine h1.mono ?_
  rintro e w2 ⟨rfl, hb3⟩
  clear h1
  replace hP := Box.mk (hP.out.here hb3)
  replace hb2 := Box.mk (mono_bel hb2.out hb3 (Nat.le_refl _))
  clear hb3
  have h1 := rleaf_any s w2 (by omega)
  rw [hu] at h1
  go_wp2_with fail
  refine h1.mono ?_
  rintro e w3 ⟨rfl, hb3⟩
  clear h1
  replace hP := Box.mk (hP.out.here hb3)
  replace hb2 := Box.mk (mono_bel hb2.out hb3 (Nat.le_refl _))
  clear hb3
  have h1 := root_any _ L a c w3 hP.out (hK.out.below hb2.out hK.out.lt) hF.out
  rw [hr] at h1
  go_wp2_with fail
  refine h1.mono ?_
  rintro e w4 ⟨rfl, hb3⟩
  clear h1
  replace hP := Box.mk (hP.out.here hb3)
  replace hb2 := Box.mk (mono_bel hb2.out hb3 (Nat.le_refl _))
  clear hb3
  have h1 := tnode_any s r w4 (hK.out.below hb2.out hK.out.lt) (by omega) (by omega)
  rw [hq] at h1
  go_wp2_with fail
  refine h1.mono ?_
  rintro e w5 ⟨rfl, hb3⟩
  clear h1
  replace hP := Box.mk (hP.out.here hb3)
  replace hb2 := Box.mk (mono_bel hb2.out hb3 (Nat.le_refl _))
  clear hb3
  have h1 := rroot_any _ L a c w5 hP.out hF.out
  rw [hr] at h1
  go_wp2_with fail
  refine h1.mono ?_
  rintro e w6 ⟨rfl, hb3⟩
  clear h1
  replace hP := Box.mk (hP.out.here hb3)
  replace hb2 := Box.mk (mono_bel hb2.out hb3 (Nat.le_refl _))
  clear hb3
  have h1 := rnode_any s r w6 hs hrs
  rw [hq] at h1
  go_wp2_with fail
  refine h1.mono ?_
  rintro e w7 ⟨rfl, hb3⟩
  clear h1
  replace hP := Box.mk (hP.out.here hb3)
  replace hb2 := Box.mk (mono_bel hb2.out hb3 (Nat.le_refl _))
  clear hb3
  have h1 := root_any _ L a c w7 hP.out (hK.out.below hb2.out hK.out.lt) hF.out
  rw [hr] at h1
  go_wp2_with fail
  refine h1.mono ?_
  rintro e w8 ⟨rfl, hb3⟩
  clear h1
  replace hP := Box.mk (hP.out.here hb3)
  replace hb2 := Box.mk (mono_bel hb2.out hb3 (Nat.le_refl _))
  clear hb3
  have h1 := rroot_any _ L a c w8 hP.out hF.out
  rw [hr] at h1
  go_wp2_with fail
  refine h1.mono ?_
  rintro e w9 ⟨rfl, hb3⟩
  clear h1
  replace hP := Box.mk (hP.out.here hb3)
  replace hb2 := Box.mk (mono_bel hb2.out hb3 (Nat.le_refl _))
  clear hb3
  go_wp2_with fail
  go_ret
  exact ⟨rfl, hb2.out⟩
end Go.Proofs.YtdomennhoopggaaDoor
