/- Walk of the law TreeProofs. -/
import Derived.Test.YtdomennhoopggaaDoorMTe
namespace Go.Proofs.YtdomennhoopggaaDoor
open Go Go.RowKit

theorem fit_32 {l : List ByteArray} (h : ∀ x ∈ l, x.size = 32) : Fit l := fun x hx => by rw [h x hx]; omega
theorem texB_self (l : List ByteArray) : texB l l = true := by simp [texB]
theorem incL_len (l : List ByteArray) (z : Int) (hl : l.length ≤ 9223372036854775807) : (incL l z).length ≤ 63 := by
  unfold incL
  split
  · exact placeL_63 hl _
  · exact Nat.zero_le _
theorem conL_len (l : List ByteArray) (z : Int) (hl : l.length ≤ 9223372036854775807) : (conL l z).length ≤ 64 := by
  unfold conL
  split
  · exact partL_64 hl _ _
  · exact Nat.zero_le _
set_option maxHeartbeats 3200000 in
set_option maxRecDepth 100000 in
theorem law_proofs (k : Nat) (z y : Int) (w : World) (hK : KIs w) (hk : k ≤ 255) :
    Calls Tryd.prog 4 #[.int .u8 (k : Int), .int .i64 z, .int .i64 y] w fun e w' => e = .returned (.bool true) ∧ Below w.heap.size w w' := by
  have hH := hashes_any w hK
  have hmod : (k : Int).tmod 70 = ((k % 70 : Nat) : Int) := by rw [Int.tmod_eq_emod_of_nonneg (by omega)]; omega
  obtain ⟨n, hn⟩ : ∃ n, k % 70 = n := ⟨_, rfl⟩
  have hn70 : n ≤ 69 := by omega
  rw [hn] at hmod
  have hLv := fun w' => leaves_any n ⟨#[112]⟩ w' (by omega) (by show 1 ≤ _; omega)
  replace hK := Box.mk hK
  clear hn
  go_enter Tryd.func4, Tryd.ntmps4
  go_wp2_with fail
  refine hH.mono ?_
  rintro e w1 ⟨rfl, hb1⟩
  clear hH
  replace hLv := hLv w1
  replace hb1 := Box.mk hb1
  go_wp2_with fail
  refine hLv.mono ?_
  rintro e w2 ⟨v2, l, rfl, hl, hsz, hT2, hb2⟩
  clear hLv
  have hF := Box.mk (fit_32 hsz)
  obtain ⟨a, c, rfl⟩ := hT2.shape
  have hP := Box.mk (hT2.pa rfl)
  replace hb2 := Box.mk (mono_bel hb1.out hb2 (Nat.le_refl _))
  clear hT2 hsz hb1
  have hl63 : l.length ≤ 9223372036854775807 := by omega
  rw [hl] at hP ⊢
  have h1 := inclusion_any n l z a c w2 hP.out (hK.out.below hb2.out hK.out.lt) hF.out
  have s1 := incL_len l z hl63
  have s2 := conL_len l y hl63
  obtain ⟨I, hI⟩ : ∃ I, incL l z = I := ⟨_, rfl⟩
  obtain ⟨J, hJ⟩ : ∃ J, incE l z = J := ⟨_, rfl⟩
  obtain ⟨C, hC⟩ : ∃ C, conL l y = C := ⟨_, rfl⟩
  obtain ⟨D, hD⟩ : ∃ D, conE l y = D := ⟨_, rfl⟩
  rw [hI, hJ] at h1
  rw [hI] at s1
  rw [hC] at s2
  unfold RowsE at h1
  go_wp2_with fail
  refine h1.mono ?_
  rintro e w3 ⟨v3, rfl, hT3, hb3⟩
  clear h1
  replace hP := Box.mk (hP.out.here hb3)
  replace hb2 := Box.mk (mono_bel hb2.out hb3 (Nat.le_refl _))
  replace hT3 := Box.mk hT3
  clear hb3
  have h1 := rinclusion_any n l z a c w3 hP.out hF.out
  rw [hI, hJ] at h1
  unfold RowsE at h1
  go_wp2_with fail
  refine h1.mono ?_
  rintro e w4 ⟨v4, rfl, hT4, hb3⟩
  clear h1
  replace hP := Box.mk (hP.out.here hb3)
  replace hb2 := Box.mk (mono_bel hb2.out hb3 (Nat.le_refl _))
  replace hT3 := Box.mk (hT3.out.here hb3)
  replace hT4 := Box.mk hT4
  clear hb3
  have h1 := consistency_any n l y a c w4 hP.out (hK.out.below hb2.out hK.out.lt) hF.out
  rw [hC, hD] at h1
  unfold RowsE at h1
  go_wp2_with fail
  refine h1.mono ?_
  rintro e w5 ⟨v5, rfl, hT5, hb3⟩
  clear h1
  replace hP := Box.mk (hP.out.here hb3)
  replace hb2 := Box.mk (mono_bel hb2.out hb3 (Nat.le_refl _))
  replace hT3 := Box.mk (hT3.out.here hb3)
  replace hT4 := Box.mk (hT4.out.here hb3)
  replace hT5 := Box.mk hT5
  clear hb3
  have h1 := rconsistency_any n l y a c w5 hP.out hF.out
  rw [hC, hD] at h1
  unfold RowsE at h1
  go_wp2_with fail
  refine h1.mono ?_
  rintro e w6 ⟨v6, rfl, hT6, hb3⟩
  clear h1 hP
  replace hb2 := Box.mk (mono_bel hb2.out hb3 (Nat.le_refl _))
  replace hT3 := Box.mk (hT3.out.here hb3)
  replace hT4 := Box.mk (hT4.out.here hb3)
  replace hT5 := Box.mk (hT5.out.here hb3)
  replace hT6 := Box.mk hT6
  clear hb3
  have h1 := same_any v3 v4 I I w6 hT3.out.parts hT4.out.parts (by unfold maxLen; omega)
  rw [texB_self] at h1
  go_wp2_with fail
  refine h1.mono ?_
  rintro e w7 ⟨rfl, hb3⟩
  clear h1 hT3 hT4
  replace hb2 := Box.mk (mono_bel hb2.out hb3 (Nat.le_refl _))
  replace hT5 := Box.mk (hT5.out.here hb3)
  replace hT6 := Box.mk (hT6.out.here hb3)
  clear hb3
  have h1 := same_any v5 v6 C C w7 hT5.out.parts hT6.out.parts (by unfold maxLen; omega)
  rw [texB_self] at h1
  go_wp2_with fail
  refine h1.mono ?_
  rintro e w8 ⟨rfl, hb3⟩
  clear h1 hT5 hT6
  replace hb2 := Box.mk (mono_bel hb2.out hb3 (Nat.le_refl _))
  clear hb3
  go_wp2_with fail
  go_ret
  exact ⟨rfl, hb2.out⟩
end Go.Proofs.YtdomennhoopggaaDoor
