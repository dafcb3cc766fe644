/- Walk of the law CellLimits. -/
import Derived.Test.YtajjihhjkpgkiaaCmA
namespace Go.Proofs.Ytajjihhjkpgkiaa
open Go.RowKit Go.Maps

set_option maxHeartbeats 6400000 in
set_option maxRecDepth 100000 in
theorem limits_law (x m : UInt8) (w : World) :
    Calls Try.prog 4 #[.int .u8 (x.toNat : Int), .int .u8 (m.toNat : Int)] w fun e w' => e = .returned (.bool true) ∧ Below w.heap.size w w' := by
  have hx : ((x.toNat : Int)).tmod 9 = (x.toNat : Int) % 9 := Int.tmod_eq_emod_of_nonneg (by omega)
  have hm : ((m.toNat : Int)).tmod 5 = (m.toNat : Int) % 5 := Int.tmod_eq_emod_of_nonneg (by omega)
  obtain ⟨h, hh⟩ : ∃ h : Nat, 2 + x.toNat % 9 = h := ⟨_, rfl⟩
  obtain ⟨r, hr⟩ : ∃ r : Nat, m.toNat % 5 = r := ⟨_, rfl⟩
  have h2 : 2 ≤ h ∧ h ≤ 10 := by omega
  obtain ⟨n, hn⟩ : ∃ n : Nat, 64 * (h - 1) - 9 + r = n := ⟨_, rfl⟩
  have hnb : n ≤ 600 := by omega
  have e1 : Box ((2 : Int) + (x.toNat : Int) % 9 = (h : Int)) := ⟨by omega⟩
  have e3 : Box ((64 : Int) * ((h : Int) - 1) - 7 - 2 + (m.toNat : Int) % 5 = (n : Int)) := ⟨by omega⟩
  obtain ⟨i5, hi5, hz5, hz51, hz52⟩ := info_parts infoY
  have hH := Box.mk (And.intro hi5 (And.intro hz5 (And.intro hz51 hz52)))
  clear hi5 hz5 hz51 hz52
  have hK := Box.mk (commits_any w)
  go_enter Try.func4, Try.ntmps4
  go_wp2_with fail
  refine hK.out.mono ?_
  rintro e w1 ⟨rfl, hb1⟩
  have hN := Box.mk (newdev_kept hb1 (2 * h) (by omega) (by omega))
  rw [show ((2 * h : Nat) : Int) = 2 * (h : Int) by omega] at hN
  clear hK hb1
  go_wp2_with fail
  rw [e1.out]
  refine hN.out.mono ?_
  rintro e w2 ⟨bd, rfl, hK2⟩
  have s0 := Sound.new (2 * h) 0 h (by omega) h2.1 (by omega)
  have hO := Box.mk (hK2.out.opens1 (base := 0) (half := h) M0 rfl h2.1 (by show 0 + 2 * h ≤ (List.replicate (2 * h) zeroS).length; rw [List.length_replicate]; omega) s0.opens rfl rfl s0.ok)
  clear hN s0 hK2
  go_wp2_with fail
  refine hO.out.mono ?_
  rintro e w3 ⟨bc, rfl, hK3⟩
  clear hO
  go_wp2_with (at_make; rw [e3.out]; refine wpList_makeG rfl (.tmp 49) (.tmp 49) 23 rfl w3.heap.size 5 i5 (.int .u8 0) 1 Try.underlying23 hH.out.1 hH.out.2.1 hH.out.2.2.1 .i64 .i64 _ _ n rfl rfl rfl rfl (by rw [hH.out.2.2.2]; omega) (by unfold maxLen; omega) (Nat.le_refl _) ?_; intro w4 hown hg; have hconv := zeros_convG w4 _ _ _ hown; have hK4 := Box.mk (hK3.out.below (Pair2.good (DevO.good _ _) (CelO.good _ _ _ _ _)) (grown_below hg)); clear hown hg)
  have hP := Box.mk (hK4.out.step ((put_does bd bc 0 h M0 tK (zs n) (by unfold maxLen; decide) (by rw [zs_size]; unfold maxLen; omega)).in_.ret' (DevO.good _ _)))
  rw [show putE M0.now tK.data.toList (zs n).data.toList = 0 from putE_k Ct.ok_nil (.inl rfl) _ (by rw [zs_list, List.length_replicate]; omega), show putM M0.now tK.data.toList (zs n).data.toList = cK (List.replicate n 0) from putM_k Ct.ok_nil (.inl rfl) _ (by rw [zs_list, List.length_replicate]; omega)] at hP
  clear hK4 hK3
  refine hP.out.mono ?_
  rintro e w5 ⟨rfl, hK5⟩
  have hC := fun e0 he => limits_commit (List.replicate n 0) h2.1 h2.2 (by rw [List.length_replicate]; exact hnb) e0 he hK5.out
  rw [List.length_replicate] at hC
  generalize List.replicate n (0 : UInt8) = z at hC
  clear hP hK5
  by_cases hgt : (64 : Int) * ((h : Int) - 1) - 7 < (n : Int)
  · have hC2 := Box.mk (hC 4 (by rw [if_pos (by omega)]))
    clear hC
    go_wp2_with fail
    refine hC2.out.mono ?_
    rintro e w6 ⟨rfl, hK6⟩
    clear hC2
    go_wp2_with fail
    go_loopw [61] (fun s61 wr => ∃ i : Nat, i ≤ 64 ∧ s61 = .int .i64 i ∧ Box (KL w bd bc h (ct (min i 63) z) wr)) (fun s61 _ => 64 - (intOf s61).toNat)
    case atStart => exact ⟨0, by omega, rfl, hK6⟩
    case round =>
      clear hK6
      obtain ⟨i, hi, rfl, hK⟩ := hrel
      by_cases hlt : i < 64
      · have hmi : min i 63 = i := by omega
        rw [hmi] at hK
        have h8 : (i : Int) % 256 = (i : Int) := by omega
        have hnew := Blk.new wr [.int .u8 1, .int .u8 (i : Int)] 5
        obtain ⟨wn, hwn⟩ : ∃ wn, wr.alloc (.cells #[.int .u8 1, .int .u8 (i : Int)] 5) = wn := ⟨_, rfl⟩
        rw [hwn] at hnew
        have hKn := hK.out.below (hwn ▸ (Below.refl _ _).alloc (Nat.le_refl _) _ : Below wr.heap.size wr wn)
        obtain ⟨bo, hbo⟩ : ∃ bo, wr.heap.size = bo := ⟨_, rfl⟩
        rw [hbo] at hnew
        have hcv : (convert 23 9 (.slice (some ⟨bo, 0, none⟩) 2 2)).run Try.prog wn = .ok (.string (btx [1, UInt8.ofNat i])) wn := by
          have hy : [Value.int .u8 1, .int .u8 (i : Int)] = ([1, UInt8.ofNat i] : Bs).map yc := by
            show _ = [yc 1, yc (UInt8.ofNat i)]
            have : ((UInt8.ofNat i).toNat : Int) = (i : Int) := by rw [UInt8.toNat_ofNat']; omega
            unfold yc
            simp only [Y, this]
            rfl
          rw [hy] at hnew
          exact bytes_conv wn bo 0 2 [1, UInt8.ofNat i] (range_all hnew)
        have hP := Box.mk (hKn.put (btx [1, UInt8.ofNat i]) ⟨#[]⟩ (by show 2 ≤ _; omega) (by show 0 ≤ _; omega) _ _ (putE_ct i hlt z) (putM_ct i hlt z))
        clear hK hKn hnew
        by_cases hi63 : i < 63
        · rw [if_pos hi63] at hP
          go_wp2_with (refine wpList_buildSlice rfl 23 5 2 _ rfl #[.int .u8 1, .int .u8 (i : Int)] i5 (.int .u8 0) Try.underlying23 hH.out.1 hH.out.2.1 (by rw [hH.out.2.2.1]; omega) (by rw [hH.out.2.2.1]; omega) (by rw [hH.out.2.2.1]; rfl) ?_)
          refine hP.out.mono ?_
          rintro e w7 ⟨rfl, hK7⟩
          clear hP
          go_wp2_with fail
          exact ⟨⟨i + 1, by omega, by go_num, hK7⟩, by simp [intOf]; omega⟩
        · rw [if_neg hi63] at hP
          go_wp2_with (refine wpList_buildSlice rfl 23 5 2 _ rfl #[.int .u8 1, .int .u8 (i : Int)] i5 (.int .u8 0) Try.underlying23 hH.out.1 hH.out.2.1 (by rw [hH.out.2.2.1]; omega) (by rw [hH.out.2.2.1]; omega) (by rw [hH.out.2.2.1]; rfl) ?_)
          refine hP.out.mono ?_
          rintro e w7 ⟨rfl, hK7⟩
          clear hP
          go_wp2_with fail
          exact ⟨⟨i + 1, by omega, by go_num, hK7⟩, by simp [intOf]; omega⟩
      · obtain rfl : i = 64 := by omega
        rw [show min 64 63 = 63 by decide] at hK
        have hNm := Box.mk (hK.out.names 64 (ct_len 63 z))
        clear hK
        go_wp2_with fail
        refine hNm.out.mono ?_
        rintro e w7 ⟨na, nq, rfl, hK7⟩
        have hP := Box.mk (hK7.out.put ⟨#[122]⟩ ⟨#[]⟩ (by decide) (by decide) _ _ (full_z z) rfl)
        rw [show putM (ct 63 z) [122] [] = ct 63 z by unfold putM; rw [full_z, if_neg (by decide)]] at hP
        clear hNm hK7
        go_wp2_with fail
        refine hP.out.mono ?_
        rintro e w8 ⟨rfl, hK8⟩
        have hP := Box.mk (hK8.out.put tK ⟨#[]⟩ (by decide) (by decide) _ _ (put_kk z).1 (put_kk z).2)
        rw [show ct 63 [] = cFull from rfl] at hP
        clear hK8
        go_wp2_with fail
        refine hP.out.mono ?_
        rintro e w9 ⟨rfl, hK9⟩
        have hP := Box.mk (hK9.out.put ⟨#[]⟩ ⟨#[]⟩ (by decide) (by decide) _ _ full_e1.1 full_e1.2)
        clear hK9
        go_wp2_with fail
        refine hP.out.mono ?_
        rintro e wa ⟨rfl, hKa⟩
        clear hP
        go_wp2_with (at_make; refine wpList_makeG rfl (.const (.int .i64 33)) (.const (.int .i64 33)) 23 rfl wa.heap.size 5 i5 (.int .u8 0) 1 Try.underlying23 hH.out.1 hH.out.2.1 hH.out.2.2.1 .i64 .i64 _ _ 33 rfl rfl rfl rfl (by rw [hH.out.2.2.2]; omega) (by unfold maxLen; omega) (Nat.le_refl _) ?_; intro wb hown hg; have hconv := zeros_convG wb _ _ _ hown; have hKb := Box.mk (hKa.out.below (grown_below hg)); clear hown hg)
        have hP := Box.mk (hKb.out.put (zs 33) ⟨#[]⟩ (by rw [zs_size]; omega) (by decide) _ _ full_e2.1 full_e2.2)
        clear hKa hKb
        refine hP.out.mono ?_
        rintro e wc ⟨rfl, hKc⟩
        clear hP hconv
        go_wp2_with (at_make; refine wpList_makeG rfl (.const (.int .i64 65536)) (.const (.int .i64 65536)) 23 rfl wc.heap.size 5 i5 (.int .u8 0) 1 Try.underlying23 hH.out.1 hH.out.2.1 hH.out.2.2.1 .i64 .i64 _ _ 65536 rfl rfl rfl rfl (by rw [hH.out.2.2.2]; omega) (by unfold maxLen; omega) (Nat.le_refl _) ?_; intro wd hown hg; have hconv := zeros_convG wd _ _ _ hown; have hKd := Box.mk (hKc.out.below (grown_below hg)); clear hown hg)
        have hP := Box.mk (hKd.out.put tK (zs 65536) (by decide) (by rw [zs_size]; omega) _ _ full_e3.1 full_e3.2)
        clear hKc hKd
        refine hP.out.mono ?_
        rintro e we ⟨rfl, hKe⟩
        have hD := Box.mk (hKe.out.drop tK (by decide) cLess full_d rfl)
        clear hP hconv hKe
        go_wp2_with fail
        refine hD.out.mono ?_
        rintro e wf ⟨rfl, hKf⟩
        have hP := Box.mk (hKf.out.put ⟨#[122]⟩ ⟨#[]⟩ (by decide) (by decide) _ _ less_z rfl)
        clear hD hKf
        go_wp2_with fail
        refine hP.out.mono ?_
        rintro e wg ⟨rfl, hKg⟩
        have hB := Box.mk hKg.out.b
        clear hP hKg
        go_wp2_with fail
        go_returns
        exact ⟨rfl, hB.out⟩
  · have hC2 := Box.mk (hC 0 (by rw [if_neg (by omega)]))
    clear hC
    go_wp2_with fail
    refine hC2.out.mono ?_
    rintro e w6 ⟨rfl, hK6⟩
    clear hC2
    go_wp2_with fail
    go_loopw [61] (fun s61 wr => ∃ i : Nat, i ≤ 64 ∧ s61 = .int .i64 i ∧ Box (KL w bd bc h (ct (min i 63) z) wr)) (fun s61 _ => 64 - (intOf s61).toNat)
    case atStart => exact ⟨0, by omega, rfl, hK6⟩
    case round =>
      clear hK6
      obtain ⟨i, hi, rfl, hK⟩ := hrel
      by_cases hlt : i < 64
      · have hmi : min i 63 = i := by omega
        rw [hmi] at hK
        have h8 : (i : Int) % 256 = (i : Int) := by omega
        have hnew := Blk.new wr [.int .u8 1, .int .u8 (i : Int)] 5
        obtain ⟨wn, hwn⟩ : ∃ wn, wr.alloc (.cells #[.int .u8 1, .int .u8 (i : Int)] 5) = wn := ⟨_, rfl⟩
        rw [hwn] at hnew
        have hKn := hK.out.below (hwn ▸ (Below.refl _ _).alloc (Nat.le_refl _) _ : Below wr.heap.size wr wn)
        obtain ⟨bo, hbo⟩ : ∃ bo, wr.heap.size = bo := ⟨_, rfl⟩
        rw [hbo] at hnew
        have hcv : (convert 23 9 (.slice (some ⟨bo, 0, none⟩) 2 2)).run Try.prog wn = .ok (.string (btx [1, UInt8.ofNat i])) wn := by
          have hy : [Value.int .u8 1, .int .u8 (i : Int)] = ([1, UInt8.ofNat i] : Bs).map yc := by
            show _ = [yc 1, yc (UInt8.ofNat i)]
            have : ((UInt8.ofNat i).toNat : Int) = (i : Int) := by rw [UInt8.toNat_ofNat']; omega
            unfold yc
            simp only [Y, this]
            rfl
          rw [hy] at hnew
          exact bytes_conv wn bo 0 2 [1, UInt8.ofNat i] (range_all hnew)
        have hP := Box.mk (hKn.put (btx [1, UInt8.ofNat i]) ⟨#[]⟩ (by show 2 ≤ _; omega) (by show 0 ≤ _; omega) _ _ (putE_ct i hlt z) (putM_ct i hlt z))
        clear hK hKn hnew
        by_cases hi63 : i < 63
        · rw [if_pos hi63] at hP
          go_wp2_with (refine wpList_buildSlice rfl 23 5 2 _ rfl #[.int .u8 1, .int .u8 (i : Int)] i5 (.int .u8 0) Try.underlying23 hH.out.1 hH.out.2.1 (by rw [hH.out.2.2.1]; omega) (by rw [hH.out.2.2.1]; omega) (by rw [hH.out.2.2.1]; rfl) ?_)
          refine hP.out.mono ?_
          rintro e w7 ⟨rfl, hK7⟩
          clear hP
          go_wp2_with fail
          exact ⟨⟨i + 1, by omega, by go_num, hK7⟩, by simp [intOf]; omega⟩
        · rw [if_neg hi63] at hP
          go_wp2_with (refine wpList_buildSlice rfl 23 5 2 _ rfl #[.int .u8 1, .int .u8 (i : Int)] i5 (.int .u8 0) Try.underlying23 hH.out.1 hH.out.2.1 (by rw [hH.out.2.2.1]; omega) (by rw [hH.out.2.2.1]; omega) (by rw [hH.out.2.2.1]; rfl) ?_)
          refine hP.out.mono ?_
          rintro e w7 ⟨rfl, hK7⟩
          clear hP
          go_wp2_with fail
          exact ⟨⟨i + 1, by omega, by go_num, hK7⟩, by simp [intOf]; omega⟩
      · obtain rfl : i = 64 := by omega
        rw [show min 64 63 = 63 by decide] at hK
        have hNm := Box.mk (hK.out.names 64 (ct_len 63 z))
        clear hK
        go_wp2_with fail
        refine hNm.out.mono ?_
        rintro e w7 ⟨na, nq, rfl, hK7⟩
        have hP := Box.mk (hK7.out.put ⟨#[122]⟩ ⟨#[]⟩ (by decide) (by decide) _ _ (full_z z) rfl)
        rw [show putM (ct 63 z) [122] [] = ct 63 z by unfold putM; rw [full_z, if_neg (by decide)]] at hP
        clear hNm hK7
        go_wp2_with fail
        refine hP.out.mono ?_
        rintro e w8 ⟨rfl, hK8⟩
        have hP := Box.mk (hK8.out.put tK ⟨#[]⟩ (by decide) (by decide) _ _ (put_kk z).1 (put_kk z).2)
        rw [show ct 63 [] = cFull from rfl] at hP
        clear hK8
        go_wp2_with fail
        refine hP.out.mono ?_
        rintro e w9 ⟨rfl, hK9⟩
        have hP := Box.mk (hK9.out.put ⟨#[]⟩ ⟨#[]⟩ (by decide) (by decide) _ _ full_e1.1 full_e1.2)
        clear hK9
        go_wp2_with fail
        refine hP.out.mono ?_
        rintro e wa ⟨rfl, hKa⟩
        clear hP
        go_wp2_with (at_make; refine wpList_makeG rfl (.const (.int .i64 33)) (.const (.int .i64 33)) 23 rfl wa.heap.size 5 i5 (.int .u8 0) 1 Try.underlying23 hH.out.1 hH.out.2.1 hH.out.2.2.1 .i64 .i64 _ _ 33 rfl rfl rfl rfl (by rw [hH.out.2.2.2]; omega) (by unfold maxLen; omega) (Nat.le_refl _) ?_; intro wb hown hg; have hconv := zeros_convG wb _ _ _ hown; have hKb := Box.mk (hKa.out.below (grown_below hg)); clear hown hg)
        have hP := Box.mk (hKb.out.put (zs 33) ⟨#[]⟩ (by rw [zs_size]; omega) (by decide) _ _ full_e2.1 full_e2.2)
        clear hKa hKb
        refine hP.out.mono ?_
        rintro e wc ⟨rfl, hKc⟩
        clear hP hconv
        go_wp2_with (at_make; refine wpList_makeG rfl (.const (.int .i64 65536)) (.const (.int .i64 65536)) 23 rfl wc.heap.size 5 i5 (.int .u8 0) 1 Try.underlying23 hH.out.1 hH.out.2.1 hH.out.2.2.1 .i64 .i64 _ _ 65536 rfl rfl rfl rfl (by rw [hH.out.2.2.2]; omega) (by unfold maxLen; omega) (Nat.le_refl _) ?_; intro wd hown hg; have hconv := zeros_convG wd _ _ _ hown; have hKd := Box.mk (hKc.out.below (grown_below hg)); clear hown hg)
        have hP := Box.mk (hKd.out.put tK (zs 65536) (by decide) (by rw [zs_size]; omega) _ _ full_e3.1 full_e3.2)
        clear hKc hKd
        refine hP.out.mono ?_
        rintro e we ⟨rfl, hKe⟩
        have hD := Box.mk (hKe.out.drop tK (by decide) cLess full_d rfl)
        clear hP hconv hKe
        go_wp2_with fail
        refine hD.out.mono ?_
        rintro e wf ⟨rfl, hKf⟩
        have hP := Box.mk (hKf.out.put ⟨#[122]⟩ ⟨#[]⟩ (by decide) (by decide) _ _ less_z rfl)
        clear hD hKf
        go_wp2_with fail
        refine hP.out.mono ?_
        rintro e wg ⟨rfl, hKg⟩
        have hB := Box.mk hKg.out.b
        clear hP hKg
        go_wp2_with fail
        go_returns
        exact ⟨rfl, hB.out⟩
end Go.Proofs.Ytajjihhjkpgkiaa
