/- Walk of the law CellCrashes. -/
import Derived.Test.YtajjihhjkpgkiaaCrA
namespace Go.Proofs.Ytajjihhjkpgkiaa
open Go.RowKit Go.Maps

set_option maxHeartbeats 6400000 in
set_option maxRecDepth 100000 in
theorem crashes_law (a1 a2 : Option Addr) (L1 C1 L2 C2 : Nat) (fv : Value) (keep : List Int) (w : World) (h1 : RowIn w a1 L1 IsStr) (h2 : RowIn w a2 L2 IsU8) (hC1 : L1 ≤ C1 ∧ C1 ≤ maxLen) (hC2 : L2 ≤ C2 ∧ C2 ≤ maxLen) (hI : Ints w (fun k => k < w.heap.size) fv keep) (hkl : keep.length ≤ 9223372036854775807) :
    Calls Try.prog 3 #[.slice a1 L1 C1, .slice a2 L2 C2, .agg #[fv]] w fun e w' => e = .returned (.bool true) ∧ Below w.heap.size w w' := by
  unfold maxLen at hC1 hC2
  obtain ⟨M1, hM1⟩ : ∃ M, min L1 40 = M := ⟨_, rfl⟩
  have hm1 : M1 ≤ L1 ∧ M1 ≤ 40 := by omega
  have hi1 : Box ((if (40 : Int) < (L1 : Int) then 40 else (L1 : Int)) = (M1 : Int)) := ⟨by split <;> omega⟩
  clear hM1
  obtain ⟨wb, hwb⟩ : ∃ wb, w.alloc (.cells #[fv] 26) = wb := ⟨_, rfl⟩
  have hnb := Blk.new w [fv] 26
  rw [hwb] at hnb
  have hb0 : Below w.heap.size w wb := hwb ▸ (Below.refl _ _).alloc (Nat.le_refl _) _
  replace h1 := Box.mk ((h1.less hm1.1).below hb0)
  replace h2 := Box.mk (h2.below hb0)
  have hI2 : Box (Ints wb (fun k => k < wb.heap.size) fv keep) := ⟨by
    obtain ⟨a, c, e, hc⟩ := (hI.chg (Chg.of_below hb0) fun k hk hk2 => by omega).out
    exact ⟨a, c, e, fun h0 => by
      obtain ⟨cb, co, e1, e2, e3, e4⟩ := hc h0
      exact ⟨cb, co, e1, e2, Nat.lt_of_lt_of_le e3 hb0.size, e4⟩⟩⟩
  replace hkl := Box.mk hkl
  obtain ⟨bf, hbf⟩ : ∃ bf, w.heap.size = bf := ⟨_, rfl⟩
  rw [hbf] at hnb
  have hK := Box.mk (commits_any wb)
  replace hnb := Box.mk hnb
  replace hb0 := Box.mk hb0
  clear hI
  go_enter Try.func3, Try.ntmps3
  go_wp2_with fail
  refine hK.out.mono ?_
  rintro e w1 ⟨rfl, hb1⟩
  have hN := Box.mk (newdev_kept hb1 20 (by decide) (by decide))
  clear hK hb1
  go_wp2_with fail
  refine hN.out.mono ?_
  rintro e w2 ⟨bd, rfl, hK2⟩
  have s0 := Sound.new 20 0 10 (by decide) (by decide) (by decide)
  have hO := Box.mk (hK2.out.opens1 (base := 0) (half := 10) M0 rfl (by decide) (by decide) s0.opens rfl rfl s0.ok)
  clear hN s0 hK2
  go_wp2_with fail
  refine hO.out.mono ?_
  rintro e w3 ⟨bc, rfl, hK3⟩
  have hS := Box.mk (KC.start hK3.out)
  generalize Dev.new 20 = D0 at hS
  generalize M0 = Mm at hS
  clear hO hK3
  go_wp2_with (refine wpList_min2 rfl (.tmp 30) (.const (.int .i64 40)) 3 rfl (L1 : Int) 40 (M1 : Int) rfl rfl hi1.out ?_)
  go_loopw [34, 9, 11] (fun s34 s9 s11 wr => ∃ (i : Nat) (D : Dev) (M : CellM) (b : Nat) (hv : Bs), i ≤ M1 ∧ s34 = .int .i64 i ∧ s9 = .pointer (some ⟨b, 0, none⟩) ∧ s11 = .string (btx hv) ∧ Box (KC wb bd b i D M hv wr)) (fun s34 _ _ _ => M1 - (intOf s34).toNat)
  case atStart => exact ⟨0, D0, Mm, bc, [], by omega, rfl, rfl, rfl, hS⟩
  case round =>
    clear hS
    obtain ⟨i, D, M, b, hv, hi, rfl, rfl, rfl, hK⟩ := hrel
    by_cases hlt : i < M1
    · obtain ⟨cb, co, rfl, hcb, hcs⟩ := h1.out.out (by omega)
      obtain ⟨_, d0, s, rfl, hs⟩ := hcs i hlt
      rw [← hK.out.k.k.cell (p := ⟨cb, _, none⟩) hcb] at d0
      have c0 : wr.cell? ⟨bf, 0, none⟩ = some fv := by rw [hK.out.k.k.cell (p := ⟨bf, 0, none⟩) hnb.out.lt]; exact hnb.out.cell 0
      obtain ⟨p, hp⟩ : ∃ p, min s.size 400 = p := ⟨_, rfl⟩
      have hip : Box ((if (400 : Int) < (s.size : Int) then 400 else (s.size : Int)) = (p : Int)) := ⟨by split <;> omega⟩
      have hps : p ≤ s.size := by omega
      have hts : (s.extract 0 p).size ≤ 400 := by rw [ByteArray.size_extract]; omega
      clear hcs hp
      by_cases hf : i < L2
      · obtain ⟨cf, cg, rfl, hcf, hcs⟩ := h2.out.out (by omega)
        obtain ⟨_, e0, x, rfl⟩ := hcs i hf
        rw [← hK.out.k.k.cell (p := ⟨cf, _, none⟩) hcf] at e0
        have hx : (0 : Int) ≤ ((x.toNat : Int)).tmod 20 ∧ ((x.toNat : Int)).tmod 20 ≤ 20 := by
          have : ((x.toNat : Int)).tmod 20 = (x.toNat : Int) % 20 := Int.tmod_eq_emod_of_nonneg (by omega)
          rw [this]; omega
        have hF := Box.mk (hK.out.fall _ hx)
        clear hcs
        go_wp2_with (refine wpList_min2 rfl (.tmp 41) (.const (.int .i64 400)) 3 rfl (s.size : Int) 400 (p : Int) rfl rfl hip.out ?_)
        refine hF.out.mono ?_
        rintro e wx ⟨rfl, ⟨Dx, hKx⟩⟩
        have c1 : wx.cell? ⟨bf, 0, none⟩ = some fv := by rw [hKx.k.k.cell (p := ⟨bf, 0, none⟩) hnb.out.lt]; exact hnb.out.cell 0
        generalize s.extract 0 p = t at hts ⊢
        have hP := Box.mk (hKx.put t hts)
        clear hF hK hKx d0 e0 c0 hip hps
        go_wp2_with fail
        refine hP.out.mono ?_
        rintro e wy ⟨rfl, hKy⟩
        have hC := Box.mk (hKy.out.commit (by omega))
        clear hP hKy c1
        go_wp2_with fail
        refine hC.out.mono ?_
        rintro e wz (⟨rfl, ⟨D4, M4, hKz⟩⟩ | ⟨rfl, ⟨D4, M4, hKz⟩⟩)
        · have hD := Box.mk hKz.dark
          clear hC hKz
          go_wp2_with fail
          refine hD.out.mono ?_
          rintro e wv ⟨rfl, hKv⟩
          clear hD
          go_wp2_with fail
          exact ⟨⟨i + 1, D4, M4, b, t.data.toList, by omega, by go_num, rfl, rfl, hKv⟩, by simp [intOf]; omega⟩
        · have c2 : wz.cell? ⟨bf, 0, none⟩ = some fv := by rw [hKz.k.k.cell (p := ⟨bf, 0, none⟩) hnb.out.lt]; exact hnb.out.cell 0
          have hCr := Box.mk (hKz.crash fv keep hI2.out hkl.out)
          clear hC hKz
          go_wp2_with fail
          refine hCr.out.mono ?_
          rintro e wv ⟨rfl, hKv⟩
          have hO := Box.mk hKv.out.opens
          clear hCr hKv c2
          go_wp2_with fail
          refine hO.out.mono ?_
          rintro e wu ⟨b2, rfl, ⟨M5, h5, y, hKu, hy, hh⟩⟩
          have hG := Box.mk (hKu.get hy)
          clear hO hKu hy
          go_wp2_with fail
          refine hG.out.mono ?_
          rintro e wt ⟨rfl, hKt⟩
          clear hG
          rcases hh with ⟨rfl, rfl | rfl⟩ | ⟨rfl, rfl⟩
          · go_wp2_with fail
            exact ⟨⟨i + 1, _, M5, b2, _, by omega, by go_num, rfl, rfl, hKt⟩, by simp [intOf]; omega⟩
          · have he : btx ([] : Bs) = ⟨#[]⟩ := rfl
            rw [he]
            cases y
            all_goals
              go_wp2_with fail
              exact ⟨⟨i + 1, _, M5, b2, [], by omega, by go_num, rfl, rfl, hKt⟩, by simp [intOf]; omega⟩
          · have ht2 : btx t.data.toList = t := rfl
            rw [ht2]
            by_cases hq : t = btx hv
            · go_wp2_with fail
              all_goals exact ⟨⟨i + 1, _, M5, b2, t.data.toList, by omega, by go_num, rfl, (by first | rfl | (rw [hq]; rfl)), hKt⟩, by simp [intOf]; omega⟩
            · go_wp2_with fail
              all_goals exact ⟨⟨i + 1, _, M5, b2, t.data.toList, by omega, by go_num, rfl, rfl, hKt⟩, by simp [intOf]; omega⟩
      · generalize ht : s.extract 0 p = t at hts
        have hP := Box.mk (hK.out.put t hts)
        have c1 := c0
        clear hK c0
        go_wp2_with (refine wpList_min2 rfl (.tmp 41) (.const (.int .i64 400)) 3 rfl (s.size : Int) 400 (p : Int) rfl rfl hip.out ?_)
        refine hP.out.mono ?_
        rintro e wy ⟨rfl, hKy⟩
        have hC := Box.mk (hKy.out.commit (by omega))
        clear hP hKy c1
        go_wp2_with fail
        refine hC.out.mono ?_
        rintro e wz (⟨rfl, ⟨D4, M4, hKz⟩⟩ | ⟨rfl, ⟨D4, M4, hKz⟩⟩)
        · have hD := Box.mk hKz.dark
          clear hC hKz
          go_wp2_with fail
          refine hD.out.mono ?_
          rintro e wv ⟨rfl, hKv⟩
          clear hD
          go_wp2_with fail
          exact ⟨⟨i + 1, D4, M4, b, t.data.toList, by omega, by go_num, rfl, rfl, hKv⟩, by simp [intOf]; omega⟩
        · have c2 : wz.cell? ⟨bf, 0, none⟩ = some fv := by rw [hKz.k.k.cell (p := ⟨bf, 0, none⟩) hnb.out.lt]; exact hnb.out.cell 0
          have hCr := Box.mk (hKz.crash fv keep hI2.out hkl.out)
          clear hC hKz
          go_wp2_with fail
          refine hCr.out.mono ?_
          rintro e wv ⟨rfl, hKv⟩
          have hO := Box.mk hKv.out.opens
          clear hCr hKv c2
          go_wp2_with fail
          refine hO.out.mono ?_
          rintro e wu ⟨b2, rfl, ⟨M5, h5, y, hKu, hy, hh⟩⟩
          have hG := Box.mk (hKu.get hy)
          clear hO hKu hy
          go_wp2_with fail
          refine hG.out.mono ?_
          rintro e wt ⟨rfl, hKt⟩
          clear hG
          rcases hh with ⟨rfl, rfl | rfl⟩ | ⟨rfl, rfl⟩
          · go_wp2_with fail
            exact ⟨⟨i + 1, _, M5, b2, _, by omega, by go_num, rfl, rfl, hKt⟩, by simp [intOf]; omega⟩
          · have he : btx ([] : Bs) = ⟨#[]⟩ := rfl
            rw [he]
            cases y
            all_goals
              go_wp2_with fail
              exact ⟨⟨i + 1, _, M5, b2, [], by omega, by go_num, rfl, rfl, hKt⟩, by simp [intOf]; omega⟩
          · have ht2 : btx t.data.toList = t := rfl
            rw [ht2]
            by_cases hq : t = btx hv
            · go_wp2_with fail
              all_goals exact ⟨⟨i + 1, _, M5, b2, t.data.toList, by omega, by go_num, rfl, (by first | rfl | (rw [hq]; rfl)), hKt⟩, by simp [intOf]; omega⟩
            · go_wp2_with fail
              all_goals exact ⟨⟨i + 1, _, M5, b2, t.data.toList, by omega, by go_num, rfl, rfl, hKt⟩, by simp [intOf]; omega⟩
    · go_wp2_with fail
      go_returns
      exact ⟨rfl, hb0.out.trans (hK.out.k.k.mono hb0.out.size)⟩
end Go.Proofs.Ytajjihhjkpgkiaa
