/- Walk of the law OtsDigits. -/
import Derived.Test.YtkemgccfdnbmpaaDoorOtU
import Derived.Test.YtkemgccfdnbmpaaDoorOtG
import Derived.Deep.CutRange
namespace Go.Proofs.YtkemgccfdnbmpaaDoor
open Go Go.RowKit

theorem own_oneN (w : World) (i : Nat) (hi : i < 256) : (w.alloc (.cells #[Value.int .u8 (i : Int)] 5)).ownsRow w.heap.size 5 1 (.slice (some ⟨w.heap.size, 0, none⟩) 1 1) [UInt8.ofNat i].length ([UInt8.ofNat i].map yc) := by
  have := own_one w (UInt8.ofNat i)
  rwa [show ((UInt8.ofNat i).toNat : Int) = (i : Int) by rw [UInt8.toNat_ofNat']; omega] at this

set_option maxHeartbeats 12800000 in
set_option maxRecDepth 100000 in
theorem law_digits (a b : ByteArray) (n : Nat) (w : World) (hK : KIs w) (hn : n < 65536) (ha : a.size ≤ 140737488351232) (hb : b.size ≤ 140737488351232) :
    Calls Tryd.prog 5 #[.int .u16 (n : Int), .string a, .string b] w fun e w' => e = .returned (.bool true) ∧ Below w.heap.size w w' := by
  have h0 := signs_any w hK
  have h1 : ∀ w1, KIs w1 → Calls Tryd.prog 9 #[.string { data := #[115, 101, 101, 100] }, .int .i64 (n : Int), .string a] w1 _ := fun w1 hK1 => sign_ok seedB a n w1 hK1 hn (by decide) (by omega)
  have h2 : ∀ w1, KIs w1 → Calls Tryd.prog 9 #[.string { data := #[115, 101, 101, 100] }, .int .i64 (n : Int), .string b] w1 _ := fun w1 hK1 => sign_ok seedB b n w1 hK1 hn (by decide) (by omega)
  have h3 := fun w1 => rdigits_any a w1 ha
  have h4 := fun w1 => rdigits_any b w1 hb
  have hs1 := sigT_size seedB n a
  have hs2 := sigT_size seedB n b
  have hc1 := fun i (hi : i < 18) => sig_cut seedB n a i hi
  have hc2 := fun i (hi : i < 18) => sig_cut seedB n b i hi
  have hi1 := dig_info a
  have hi2 := dig_info b
  have hz1 := dig_size a
  have hz2 := dig_size b
  have hdc1 : ∀ i, i < 18 → (dcell (digs (headL a)))[i]? = some (.int .i64 (dig (headL a) i : Int)) := fun i hi => dcell_get _ (digs_length _) i hi
  have hdc2 : ∀ i, i < 18 → (dcell (digs (headL b)))[i]? = some (.int .i64 (dig (headL b) i : Int)) := fun i hi => dcell_get _ (digs_length _) i hi
  obtain ⟨X, hX⟩ : ∃ X, sigT seedB n a = X := ⟨_, rfl⟩
  obtain ⟨Y', hY⟩ : ∃ Y', sigT seedB n b = Y' := ⟨_, rfl⟩
  obtain ⟨da, hda⟩ : ∃ da, digs (headL a) = da := ⟨_, rfl⟩
  obtain ⟨db, hdb⟩ : ∃ db, digs (headL b) = db := ⟨_, rfl⟩
  rw [hX] at h1 hs1 hc1
  rw [hY] at h2 hs2 hc2
  rw [hda] at h3 hi1 hz1 hdc1
  rw [hdb] at h4 hi2 hz2 hdc2
  have hKB := Box.mk hK
  replace hX := Box.mk hX
  replace hY := Box.mk hY
  replace hda := Box.mk hda
  replace hdb := Box.mk hdb
  replace hc1 := Box.mk hc1
  replace hc2 := Box.mk hc2
  replace hdc1 := Box.mk hdc1
  replace hdc2 := Box.mk hdc2
  clear hK ha hb
  go_enter Tryd.func5, Tryd.ntmps5
  go_wp2_with fail
  refine h0.mono ?_
  clear h0
  rintro e0 w0 ⟨rfl, hb0⟩
  have hB0 : Box (Below w.heap.size w w0) := ⟨hb0⟩
  have hF := h1 w0 (hKB.out.below hB0.out hKB.out.lt)
  clear h1 hb0
  go_wp2_with fail
  refine hF.mono ?_
  clear hF
  rintro e0 w1 ⟨rfl, hb1⟩
  have hB1 : Box (Below w.heap.size w w1) := ⟨hB0.out.trans (hb1.mono hB0.out.size)⟩
  have hF := h2 w1 (hKB.out.below hB1.out hKB.out.lt)
  clear h2 hb1 hB0
  go_wp2_with fail
  refine hF.mono ?_
  clear hF
  rintro e0 w2 ⟨rfl, hb2⟩
  have hB2 : Box (Below w.heap.size w w2) := ⟨hB1.out.trans (hb2.mono hB1.out.size)⟩
  have hF := h3 w2
  clear h3 hb2 hB1
  go_wp2_with fail
  refine hF.mono ?_
  clear hF
  rintro e0 w3 ⟨rfl, hb3⟩
  have hB3 : Box (Below w.heap.size w w3) := ⟨hB2.out.trans (hb3.mono hB2.out.size)⟩
  have hF := h4 w3
  clear h4 hb3 hB2
  go_wp2_with fail
  refine hF.mono ?_
  clear hF
  rintro e0 w4 ⟨rfl, hb4⟩
  have hB4 : Box (Below w.heap.size w w4) := ⟨hB3.out.trans (hb4.mono hB3.out.size)⟩
  clear hb4 hB3
  obtain ⟨bd, hbd⟩ : ∃ bd, w4.heap.size = bd := ⟨_, rfl⟩
  have hbw : w.heap.size ≤ bd := by have := hB4.out.size; omega
  have hZ1 : Box (Blk ((w4.alloc (.cells zeros18 32)).alloc (.cells zeros18 32)) bd (dcell []) 32) := ⟨by rw [← hbd]; exact (zeros18_blk w4).alloc _⟩
  have hZ2 : Box (Blk ((w4.alloc (.cells zeros18 32)).alloc (.cells zeros18 32)) (bd + 1) (dcell []) 32) := ⟨by
    have := zeros18_blk (w4.alloc (.cells zeros18 32))
    rwa [show (w4.alloc (.cells zeros18 32)).heap.size = bd + 1 by simp [hbd]] at this⟩
  have hB5 : Box (Below w.heap.size w ((w4.alloc (.cells zeros18 32)).alloc (.cells zeros18 32))) := ⟨(hB4.out.alloc hB4.out.size _).alloc (by have := hB4.out.size; simp; omega) _⟩
  have hZ3 : Box (Blk (((w4.alloc (.cells zeros18 32)).alloc (.cells zeros18 32)).setRow bd (dcell da).toArray) (bd + 1) (dcell []) 32) := ⟨hZ2.out.setRow_other (by omega) _⟩
  have hP1 : Box (Blk ((((w4.alloc (.cells zeros18 32)).alloc (.cells zeros18 32)).setRow bd (dcell da).toArray).setRow (bd + 1) (dcell db).toArray) bd (dcell da) 32) := ⟨(setRow_blk hZ1.out _).setRow_other (by omega) _⟩
  have hP2 : Box (Blk ((((w4.alloc (.cells zeros18 32)).alloc (.cells zeros18 32)).setRow bd (dcell da).toArray).setRow (bd + 1) (dcell db).toArray) (bd + 1) (dcell db) 32) := ⟨setRow_blk hZ3.out _⟩
  have hB6 : Box (Below w.heap.size w ((((w4.alloc (.cells zeros18 32)).alloc (.cells zeros18 32)).setRow bd (dcell da).toArray).setRow (bd + 1) (dcell db).toArray)) := ⟨(hB5.out.trans ((setRow_save ((w4.alloc (.cells zeros18 32)).alloc (.cells zeros18 32)) _ bd _).below (by omega))).trans ((setRow_save _ _ (bd + 1) _).below (by omega))⟩
  clear hB4
  go_wp2_with (first | (refine wpList_store_row rfl 32 (.tmp 11) (.tmp 38) rfl bd (dcell da).toArray rfl rfl 32 zeros18 hZ1.out hi1 hz1 (dcell_one _) ?_) | (refine wpList_store_row rfl 32 (.tmp 12) (.tmp 40) rfl (bd + 1) (dcell db).toArray rfl rfl 32 zeros18 hZ3.out hi2 hz2 (dcell_one _) ?_))
  replace hbd := Box.mk hbd
  clear hZ1 hZ2 hZ3 hB5 hi1 hi2 hz1 hz2
  go_loopw [49] (fun q wr => ∃ i : Nat, i ≤ 18 ∧ q = .int .i64 (i : Int) ∧ Box (Blk wr bd (dcell da) 32) ∧ Box (Blk wr (bd + 1) (dcell db) 32) ∧ Box (Below w.heap.size w wr)) (fun q _ => 18 - (intOf q).toNat)
  case atStart => exact ⟨0, by omega, rfl, hP1, hP2, hB6⟩
  case round =>
    clear hP1 hP2 hB6
    obtain ⟨i, hi, rfl, hP, hR, hB⟩ := hrel
    by_cases hlt : i < 18
    · have e1 : ((16 : Int) * (i : Int)).toNat = 16 * i := by omega
      have e2 : ((16 : Int) * (i : Int) + 16).toNat = 16 * i + 16 := by omega
      have hu := hc1.out i hlt
      have hv := hc2.out i hlt
      have g1 := hP.out.cell i
      rw [hdc1.out i hlt] at g1
      have g2 := hR.out.cell i
      rw [hdc2.out i hlt] at g2
      have hd1 := dig_le (headL a) i
      have hd2 := dig_le (headL b) i
      obtain ⟨sc, hsc⟩ : ∃ sc, secV seedB n i = sc := ⟨_, rfl⟩
      have hscz : sc.size = 16 := by rw [← hsc]; exact secV_size _ _ _
      rw [show sigV seedB n a i = linksV n i 0 (dig (headL a) i) sc by rw [← hsc]; rfl] at hu
      rw [show sigV seedB n b i = linksV n i 0 (dig (headL b) i) sc by rw [← hsc]; rfl] at hv
      obtain ⟨d, hd⟩ : ∃ d, dig (headL a) i = d := ⟨_, rfl⟩
      obtain ⟨c, hc⟩ : ∃ c, dig (headL b) i = c := ⟨_, rfl⟩
      rw [hd] at hu g1 hd1
      rw [hc] at hv g2 hd2
      obtain ⟨u, hu'⟩ : ∃ u, linksV n i 0 d sc = u := ⟨_, rfl⟩
      obtain ⟨v, hv'⟩ : ∃ v, linksV n i 0 c sc = v := ⟨_, rfl⟩
      rw [hu'] at hu
      rw [hv'] at hv
      replace hu' := Box.mk hu'
      replace hv' := Box.mk hv'
      replace hd := Box.mk hd
      replace hc := Box.mk hc
      replace hsc := Box.mk hsc
      go_wp2_with fail
      go_quiet (fail)
      have hP1 : Box (Blk (wr.drewN nq) bd (dcell da) 32) := ⟨hP.out.drewN nq⟩
      have hR1 : Box (Blk (wr.drewN nq) (bd + 1) (dcell db) 32) := ⟨hR.out.drewN nq⟩
      have hB1 : Box (Below w.heap.size w (wr.drewN nq)) := ⟨hB.out.trans (Drawn.below ⟨nq, rfl⟩)⟩
      have k1 : (wr.drewN nq).cell? ⟨bd, i, none⟩ = some (.int .i64 (d : Int)) := g1
      have k2 : (wr.drewN nq).cell? ⟨bd + 1, i, none⟩ = some (.int .i64 (c : Int)) := g2
      generalize wr.drewN nq = wx at hP1 hR1 hB1 k1 k2 ⊢
      clear hP hR hB g1 g2
      go_upto_region 12 with fail
      go_cut [77] from 50 to 121 (fun s77 wc => s77 = .bool false ∧ wc.cell? ⟨bd, i, none⟩ = some (.int .i64 (d : Int)) ∧ wc.cell? ⟨bd + 1, i, none⟩ = some (.int .i64 (c : Int)) ∧ Box (Blk wc bd (dcell da) 32) ∧ Box (Blk wc (bd + 1) (dcell db) 32) ∧ Box (Below w.heap.size w wc))
      case first =>
        by_cases hdc : d = c
        · subst hdc
          obtain rfl : u = v := hu'.out.symm.trans hv'.out
          go_wp2_with fail
          refine wp_region_quiet_lit (by kernel_rfl) (by kernel_rfl) ?_
          repeat (go_big_quiet_step (first | exact fun _ => rfl | rfl))
          refine wpQuiet_nil ?_
          rintro w2 ⟨r, rfl⟩
          go_wp2_with fail
          go_meet
          exact ⟨rfl, k1, k2, ⟨hP1.out.drewN r⟩, ⟨hR1.out.drewN r⟩, ⟨hB1.out.trans (Drawn.below ⟨r, rfl⟩)⟩⟩
        · have hq : ((d : Int) == (c : Int)) = false := by simp; omega
          go_wp2_with fail
          refine wp_region_quiet_lit (by kernel_rfl) (by kernel_rfl) ?_
          repeat (go_big_quiet_step (first | exact fun _ => rfl | rfl))
          refine wpQuiet_nil ?_
          rintro w2 ⟨r, rfl⟩
          go_wp2_with fail
          go_meet
          exact ⟨rfl, k1, k2, ⟨hP1.out.drewN r⟩, ⟨hR1.out.drewN r⟩, ⟨hB1.out.trans (Drawn.below ⟨r, rfl⟩)⟩⟩
      case rest =>
        clear hP1 hR1 hB1 k1 k2
        obtain ⟨rfl, k1, k2, hP1, hR1, hB1⟩ := hcut
        go_wp2_with fail
        go_quiet (fail)
        have hP2 : Box (Blk (wc.drewN nq) bd (dcell da) 32) := ⟨hP1.out.drewN nq⟩
        have hR2 : Box (Blk (wc.drewN nq) (bd + 1) (dcell db) 32) := ⟨hR1.out.drewN nq⟩
        have hB2 : Box (Below w.heap.size w (wc.drewN nq)) := ⟨hB1.out.trans (Drawn.below ⟨nq, rfl⟩)⟩
        have k1' : (wc.drewN nq).cell? ⟨bd, i, none⟩ = some (.int .i64 (d : Int)) := k1
        have k2' : (wc.drewN nq).cell? ⟨bd + 1, i, none⟩ = some (.int .i64 (c : Int)) := k2
        generalize wc.drewN nq = wy at hP2 hR2 hB2 k1' k2' ⊢
        clear hP1 hR1 hB1 k1 k2
        go_upto_if 88 with fail
        go_cut [16, 17, 18, 19] from 50 to 121 (fun low high f t wc => ∃ fr to_ : Nat, low = .string (linksV n i 0 fr sc) ∧ high = .string (linksV n i 0 to_ sc) ∧ f = .int .i64 (fr : Int) ∧ t = .int .i64 (to_ : Int) ∧ fr ≤ to_ ∧ to_ ≤ 15 ∧ Box (Blk wc bd (dcell da) 32) ∧ Box (Blk wc (bd + 1) (dcell db) 32) ∧ Box (Below w.heap.size w wc))
        case first =>
          by_cases hcd : c < d
          · have hgt : ((c : Int) < (d : Int)) := by omega
            go_wp2_with fail
            go_quiet (fail)
            go_wp2_with fail
            go_meet
            exact ⟨c, d, by rw [hv'.out], by rw [hu'.out], rfl, rfl, by omega, hd1, ⟨hP2.out.drewN nq⟩, ⟨hR2.out.drewN nq⟩, ⟨hB2.out.trans (Drawn.below ⟨nq, rfl⟩)⟩⟩
          · have hgt : ¬ ((c : Int) < (d : Int)) := by omega
            go_wp2_with fail
            go_meet
            exact ⟨d, c, by rw [hu'.out], by rw [hv'.out], rfl, rfl, by omega, hd2, hP2, hR2, hB2⟩
        case rest =>
          clear hP2 hR2 hB2 k1' k2'
          obtain ⟨fr, to_, rfl, rfl, rfl, rfl, hft, ht15, hP2, hR2, hB2⟩ := hcut
          go_wp2_with fail
          have hP3i := hP2
          go_loopw [16, 20] (fun lw q wr => ∃ k : Nat, fr ≤ k ∧ k ≤ to_ ∧ lw = .string (linksV n i 0 k sc) ∧ q = .int .i64 (k : Int) ∧ Box (Blk wr bd (dcell da) 32) ∧ Box (Blk wr (bd + 1) (dcell db) 32) ∧ Box (Below w.heap.size w wr)) (fun _ q _ => to_ - (intOf q).toNat)
          case atStart => exact ⟨fr, by omega, hft, rfl, rfl, hP2, hR2, hB2⟩
          case round =>
            clear hP2 hR2 hB2 hP3i
            obtain ⟨k, hk1, hk2, rfl, rfl, hP3, hR3, hB3⟩ := hrel
            by_cases hkt : k < to_
            · have hNum := fun w => rnumber_any n w
              obtain ⟨z, hz⟩ : ∃ z, linksV n i 0 k sc = z := ⟨_, rfl⟩
              have hzs : z.size = 16 := by rw [← hz]; exact linksV_size n i 0 sc hscz k
              have hnext : linkV n i k z = linksV n i 0 (k + 1) sc := by rw [linksV, hz, Nat.zero_add]
              have hsz : (tagL 33 [by2 n, by1 i, by1 k, z]).length ≤ 140737488354000 := by
                have h2 : (by2 n).size = 2 := rfl
                have h1 : (by1 i).size = 1 := rfl
                have h3 : (by1 k).size = 1 := rfl
                simp only [tagL, tagP, List.flatMap_cons, List.flatMap_nil, List.length_cons, List.length_append, data_len, be4_length, List.length_nil, h1, h2, h3, hzs]
                omega
              have hts := tagS_size 33 [by2 n, by1 i, by1 k, z]
              have hval : (tagS 33 [by2 n, by1 i, by1 k, z]).extract 0 16 = linksV n i 0 (k + 1) sc := hnext
              obtain ⟨ts, hTS⟩ : ∃ ts, tagS 33 [by2 n, by1 i, by1 k, z] = ts := ⟨_, rfl⟩
              have hTg := fun w1 => rtag_parts 33 (.slice (some ⟨w1.heap.size, 0, none⟩) 4 4) [by2 n, by1 i, by1 k, z] (w1.alloc (.cells #[.string (by2 n), .string (by1 i), .string (by1 k), .string z] 9)) (parts_new w1 [by2 n, by1 i, by1 k, z] 9) hsz (by simp)
              rw [show hashOf (tagL 33 [by2 n, by1 i, by1 k, z]) = ts from hTS] at hTg
              rw [hTS] at hts hval
              obtain ⟨y, hy⟩ : ∃ y, linksV n i 0 (k + 1) sc = y := ⟨_, rfl⟩
              rw [hy] at hval
              rw [hz]
              have hi256 : i < 256 := by omega
              have hk256 : k < 256 := by omega
              replace hz := Box.mk hz
              replace hy := Box.mk hy
              clear hsz hTS hnext hft
              go_wp2_with fail
              have hBd : Box (Below wr.heap.size wr wr.drew) := ⟨Drawn.below ⟨1, rfl⟩⟩
              refine region_go (C := fun _ => True) rfl ?_
              generalize wr.drew = wd at hBd ⊢
              refine go_calms [0, 1, 3, 4, 7, 8, 11] 9 rfl (by kernel_rfl) (by kernel_rfl) (by kernel_rfl) True.intro ?_
              simp [nth]
              try simp only [Act.put]
              repeat (go_big_quiet_step (first | exact fun _ => rfl | rfl))
              refine wpQuiet_nil ?_
              refine go_fork3 2 5 9 (by kernel_rfl) (goOp_wp 2 rfl rfl (fun K hK => ?_)) (goOp_wp 5 rfl rfl (fun K hK => ?_)) (goOp_wp 9 rfl rfl (fun K hK => ?_))
              · go_simp
                refine (hNum wd).mono ?_
                rintro e w1 ⟨rfl, hb1⟩
                refine hK _ _ True.intro ?_
                clear hK K
                have hB1 : Box (Below wr.heap.size wr w1) := ⟨hBd.out.trans (hb1.mono hBd.out.size)⟩
                clear hb1 hBd
                refine go_fork 5 9 (by kernel_rfl) (goOp_wp 5 rfl rfl (fun K hK => ?_)) (goOp_wp 9 rfl rfl (fun K hK => ?_))
                · go_simp
                  refine hK _ _ True.intro ?_
                  clear hK K
                  have hB2 : Box (Below wr.heap.size wr (w1.alloc (.cells #[Value.int .u8 (i : Int)] 5))) := ⟨hB1.out.alloc hB1.out.size _⟩
                  have hO1_2 := Box.mk (own_oneN w1 i hi256)
                  clear hB1
                  obtain ⟨a2, ha2⟩ : ∃ a, w1.heap.size = a := ⟨_, rfl⟩
                  rw [ha2] at hO1_2 ⊢
                  generalize w1.alloc (.cells #[Value.int .u8 (i : Int)] 5) = w2 at hB2 hO1_2 ⊢
                  clear ha2
                  refine go_fork 6 9 (by kernel_rfl) (goOp_wp 6 rfl rfl (fun K hK => ?_)) (goOp_wp 9 rfl rfl (fun K hK => ?_))
                  · have hcv3 := own_text hO1_2.out
                    rw [show (⟨[UInt8.ofNat i].toArray⟩ : ByteArray) = by1 i from rfl] at hcv3
                    go_simp
                    refine hK _ _ True.intro ?_
                    clear hK K hcv3 hO1_2
                    refine go_forced 9 (by kernel_rfl) (goOp_wp 9 rfl rfl (fun K hK => ?_))
                    go_simp
                    refine hK _ _ True.intro ?_
                    clear hK K
                    have hB4 : Box (Below wr.heap.size wr (w2.alloc (.cells #[Value.int .u8 (k : Int)] 5))) := ⟨hB2.out.alloc hB2.out.size _⟩
                    have hO2_4 := Box.mk (own_oneN w2 k hk256)
                    clear hB2
                    obtain ⟨a4, ha4⟩ : ∃ a, w2.heap.size = a := ⟨_, rfl⟩
                    rw [ha4] at hO2_4 ⊢
                    generalize w2.alloc (.cells #[Value.int .u8 (k : Int)] 5) = w4 at hB4 hO2_4 ⊢
                    clear ha4
                    refine go_forced 10 (by kernel_rfl) (goOp_wp 10 rfl rfl (fun K hK => ?_))
                    have hcv5 := own_text hO2_4.out
                    rw [show (⟨[UInt8.ofNat k].toArray⟩ : ByteArray) = by1 k from rfl] at hcv5
                    go_simp
                    refine hK _ _ True.intro ?_
                    clear hK K hcv5 hO2_4
                    refine go_forced 12 (by kernel_rfl) (goOp_wp 12 rfl rfl (fun K hK => ?_))
                    go_simp
                    refine hK _ _ True.intro ?_
                    clear hK K
                    have hF := hTg w4
                    have hBt : Box (Below wr.heap.size wr (w4.alloc (.cells #[.string (by2 n), .string (by1 i), .string (by1 k), .string z] 9))) := ⟨hB4.out.alloc hB4.out.size _⟩
                    clear hTg hB4 hNum
                    refine go_forced 13 (by kernel_rfl) (goOp_wp 13 rfl rfl (fun K hK => ?_))
                    go_simp
                    refine hF.mono ?_
                    rintro e we ⟨rfl, hbe⟩
                    refine hK _ _ True.intro ?_
                    clear hK K hF
                    have hBe : Box (Below wr.heap.size wr we) := ⟨hBt.out.trans (hbe.mono hBt.out.size)⟩
                    clear hBt hbe
                    refine go_calms [14, 15] 0 rfl (by kernel_rfl) (by kernel_rfl) (by kernel_rfl) True.intro ?_
                    simp [nth]
                    try simp only [Act.put]
                    repeat (go_big_quiet_step (first | exact fun _ => rfl | rfl))
                    refine wpQuiet_nil ?_
                    refine go_done (by kernel_rfl) ?_
                    go_simp
                    go_wp2_with fail
                    exact ⟨⟨k + 1, by omega, by omega, by rw [hy.out], by go_num, ⟨hP3.out.below hBe.out hP3.out.lt⟩, ⟨hR3.out.below hBe.out hR3.out.lt⟩, ⟨hB3.out.trans (hBe.out.mono hB3.out.size)⟩⟩, by simp [intOf]; omega⟩
                  · go_simp
                    refine hK _ _ True.intro ?_
                    clear hK K
                    have hB6 : Box (Below wr.heap.size wr (w2.alloc (.cells #[Value.int .u8 (k : Int)] 5))) := ⟨hB2.out.alloc hB2.out.size _⟩
                    have hO2_6 := Box.mk (own_oneN w2 k hk256)
                    have hO1_6 : Box _ := ⟨hO1_2.out.alloc (.cells #[Value.int .u8 (k : Int)] 5)⟩
                    clear hB2 hO1_2
                    obtain ⟨a6, ha6⟩ : ∃ a, w2.heap.size = a := ⟨_, rfl⟩
                    rw [ha6] at hO2_6 ⊢
                    generalize w2.alloc (.cells #[Value.int .u8 (k : Int)] 5) = w6 at hB6 hO1_6 hO2_6 ⊢
                    clear ha6
                    refine go_fork 6 10 (by kernel_rfl) (goOp_wp 6 rfl rfl (fun K hK => ?_)) (goOp_wp 10 rfl rfl (fun K hK => ?_))
                    · have hcv7 := own_text hO1_6.out
                      rw [show (⟨[UInt8.ofNat i].toArray⟩ : ByteArray) = by1 i from rfl] at hcv7
                      go_simp
                      refine hK _ _ True.intro ?_
                      clear hK K hcv7 hO1_6
                      refine go_forced 10 (by kernel_rfl) (goOp_wp 10 rfl rfl (fun K hK => ?_))
                      have hcv8 := own_text hO2_6.out
                      rw [show (⟨[UInt8.ofNat k].toArray⟩ : ByteArray) = by1 k from rfl] at hcv8
                      go_simp
                      refine hK _ _ True.intro ?_
                      clear hK K hcv8 hO2_6
                      refine go_forced 12 (by kernel_rfl) (goOp_wp 12 rfl rfl (fun K hK => ?_))
                      go_simp
                      refine hK _ _ True.intro ?_
                      clear hK K
                      have hF := hTg w6
                      have hBt : Box (Below wr.heap.size wr (w6.alloc (.cells #[.string (by2 n), .string (by1 i), .string (by1 k), .string z] 9))) := ⟨hB6.out.alloc hB6.out.size _⟩
                      clear hTg hB6 hNum
                      refine go_forced 13 (by kernel_rfl) (goOp_wp 13 rfl rfl (fun K hK => ?_))
                      go_simp
                      refine hF.mono ?_
                      rintro e we ⟨rfl, hbe⟩
                      refine hK _ _ True.intro ?_
                      clear hK K hF
                      have hBe : Box (Below wr.heap.size wr we) := ⟨hBt.out.trans (hbe.mono hBt.out.size)⟩
                      clear hBt hbe
                      refine go_calms [14, 15] 0 rfl (by kernel_rfl) (by kernel_rfl) (by kernel_rfl) True.intro ?_
                      simp [nth]
                      try simp only [Act.put]
                      repeat (go_big_quiet_step (first | exact fun _ => rfl | rfl))
                      refine wpQuiet_nil ?_
                      refine go_done (by kernel_rfl) ?_
                      go_simp
                      go_wp2_with fail
                      exact ⟨⟨k + 1, by omega, by omega, by rw [hy.out], by go_num, ⟨hP3.out.below hBe.out hP3.out.lt⟩, ⟨hR3.out.below hBe.out hR3.out.lt⟩, ⟨hB3.out.trans (hBe.out.mono hB3.out.size)⟩⟩, by simp [intOf]; omega⟩
                    · have hcv9 := own_text hO2_6.out
                      rw [show (⟨[UInt8.ofNat k].toArray⟩ : ByteArray) = by1 k from rfl] at hcv9
                      go_simp
                      refine hK _ _ True.intro ?_
                      clear hK K hcv9 hO2_6
                      refine go_forced 6 (by kernel_rfl) (goOp_wp 6 rfl rfl (fun K hK => ?_))
                      have hcv10 := own_text hO1_6.out
                      rw [show (⟨[UInt8.ofNat i].toArray⟩ : ByteArray) = by1 i from rfl] at hcv10
                      go_simp
                      refine hK _ _ True.intro ?_
                      clear hK K hcv10 hO1_6
                      refine go_forced 12 (by kernel_rfl) (goOp_wp 12 rfl rfl (fun K hK => ?_))
                      go_simp
                      refine hK _ _ True.intro ?_
                      clear hK K
                      have hF := hTg w6
                      have hBt : Box (Below wr.heap.size wr (w6.alloc (.cells #[.string (by2 n), .string (by1 i), .string (by1 k), .string z] 9))) := ⟨hB6.out.alloc hB6.out.size _⟩
                      clear hTg hB6 hNum
                      refine go_forced 13 (by kernel_rfl) (goOp_wp 13 rfl rfl (fun K hK => ?_))
                      go_simp
                      refine hF.mono ?_
                      rintro e we ⟨rfl, hbe⟩
                      refine hK _ _ True.intro ?_
                      clear hK K hF
                      have hBe : Box (Below wr.heap.size wr we) := ⟨hBt.out.trans (hbe.mono hBt.out.size)⟩
                      clear hBt hbe
                      refine go_calms [14, 15] 0 rfl (by kernel_rfl) (by kernel_rfl) (by kernel_rfl) True.intro ?_
                      simp [nth]
                      try simp only [Act.put]
                      repeat (go_big_quiet_step (first | exact fun _ => rfl | rfl))
                      refine wpQuiet_nil ?_
                      refine go_done (by kernel_rfl) ?_
                      go_simp
                      go_wp2_with fail
                      exact ⟨⟨k + 1, by omega, by omega, by rw [hy.out], by go_num, ⟨hP3.out.below hBe.out hP3.out.lt⟩, ⟨hR3.out.below hBe.out hR3.out.lt⟩, ⟨hB3.out.trans (hBe.out.mono hB3.out.size)⟩⟩, by simp [intOf]; omega⟩
                · go_simp
                  refine hK _ _ True.intro ?_
                  clear hK K
                  have hB11 : Box (Below wr.heap.size wr (w1.alloc (.cells #[Value.int .u8 (k : Int)] 5))) := ⟨hB1.out.alloc hB1.out.size _⟩
                  have hO2_11 := Box.mk (own_oneN w1 k hk256)
                  clear hB1
                  obtain ⟨a11, ha11⟩ : ∃ a, w1.heap.size = a := ⟨_, rfl⟩
                  rw [ha11] at hO2_11 ⊢
                  generalize w1.alloc (.cells #[Value.int .u8 (k : Int)] 5) = w11 at hB11 hO2_11 ⊢
                  clear ha11
                  refine go_fork 5 10 (by kernel_rfl) (goOp_wp 5 rfl rfl (fun K hK => ?_)) (goOp_wp 10 rfl rfl (fun K hK => ?_))
                  · go_simp
                    refine hK _ _ True.intro ?_
                    clear hK K
                    have hB12 : Box (Below wr.heap.size wr (w11.alloc (.cells #[Value.int .u8 (i : Int)] 5))) := ⟨hB11.out.alloc hB11.out.size _⟩
                    have hO1_12 := Box.mk (own_oneN w11 i hi256)
                    have hO2_12 : Box _ := ⟨hO2_11.out.alloc (.cells #[Value.int .u8 (i : Int)] 5)⟩
                    clear hB11 hO2_11
                    obtain ⟨a12, ha12⟩ : ∃ a, w11.heap.size = a := ⟨_, rfl⟩
                    rw [ha12] at hO1_12 ⊢
                    generalize w11.alloc (.cells #[Value.int .u8 (i : Int)] 5) = w12 at hB12 hO2_12 hO1_12 ⊢
                    clear ha12
                    refine go_fork 6 10 (by kernel_rfl) (goOp_wp 6 rfl rfl (fun K hK => ?_)) (goOp_wp 10 rfl rfl (fun K hK => ?_))
                    · have hcv13 := own_text hO1_12.out
                      rw [show (⟨[UInt8.ofNat i].toArray⟩ : ByteArray) = by1 i from rfl] at hcv13
                      go_simp
                      refine hK _ _ True.intro ?_
                      clear hK K hcv13 hO1_12
                      refine go_forced 10 (by kernel_rfl) (goOp_wp 10 rfl rfl (fun K hK => ?_))
                      have hcv14 := own_text hO2_12.out
                      rw [show (⟨[UInt8.ofNat k].toArray⟩ : ByteArray) = by1 k from rfl] at hcv14
                      go_simp
                      refine hK _ _ True.intro ?_
                      clear hK K hcv14 hO2_12
                      refine go_forced 12 (by kernel_rfl) (goOp_wp 12 rfl rfl (fun K hK => ?_))
                      go_simp
                      refine hK _ _ True.intro ?_
                      clear hK K
                      have hF := hTg w12
                      have hBt : Box (Below wr.heap.size wr (w12.alloc (.cells #[.string (by2 n), .string (by1 i), .string (by1 k), .string z] 9))) := ⟨hB12.out.alloc hB12.out.size _⟩
                      clear hTg hB12 hNum
                      refine go_forced 13 (by kernel_rfl) (goOp_wp 13 rfl rfl (fun K hK => ?_))
                      go_simp
                      refine hF.mono ?_
                      rintro e we ⟨rfl, hbe⟩
                      refine hK _ _ True.intro ?_
                      clear hK K hF
                      have hBe : Box (Below wr.heap.size wr we) := ⟨hBt.out.trans (hbe.mono hBt.out.size)⟩
                      clear hBt hbe
                      refine go_calms [14, 15] 0 rfl (by kernel_rfl) (by kernel_rfl) (by kernel_rfl) True.intro ?_
                      simp [nth]
                      try simp only [Act.put]
                      repeat (go_big_quiet_step (first | exact fun _ => rfl | rfl))
                      refine wpQuiet_nil ?_
                      refine go_done (by kernel_rfl) ?_
                      go_simp
                      go_wp2_with fail
                      exact ⟨⟨k + 1, by omega, by omega, by rw [hy.out], by go_num, ⟨hP3.out.below hBe.out hP3.out.lt⟩, ⟨hR3.out.below hBe.out hR3.out.lt⟩, ⟨hB3.out.trans (hBe.out.mono hB3.out.size)⟩⟩, by simp [intOf]; omega⟩
                    · have hcv15 := own_text hO2_12.out
                      rw [show (⟨[UInt8.ofNat k].toArray⟩ : ByteArray) = by1 k from rfl] at hcv15
                      go_simp
                      refine hK _ _ True.intro ?_
                      clear hK K hcv15 hO2_12
                      refine go_forced 6 (by kernel_rfl) (goOp_wp 6 rfl rfl (fun K hK => ?_))
                      have hcv16 := own_text hO1_12.out
                      rw [show (⟨[UInt8.ofNat i].toArray⟩ : ByteArray) = by1 i from rfl] at hcv16
                      go_simp
                      refine hK _ _ True.intro ?_
                      clear hK K hcv16 hO1_12
                      refine go_forced 12 (by kernel_rfl) (goOp_wp 12 rfl rfl (fun K hK => ?_))
                      go_simp
                      refine hK _ _ True.intro ?_
                      clear hK K
                      have hF := hTg w12
                      have hBt : Box (Below wr.heap.size wr (w12.alloc (.cells #[.string (by2 n), .string (by1 i), .string (by1 k), .string z] 9))) := ⟨hB12.out.alloc hB12.out.size _⟩
                      clear hTg hB12 hNum
                      refine go_forced 13 (by kernel_rfl) (goOp_wp 13 rfl rfl (fun K hK => ?_))
                      go_simp
                      refine hF.mono ?_
                      rintro e we ⟨rfl, hbe⟩
                      refine hK _ _ True.intro ?_
                      clear hK K hF
                      have hBe : Box (Below wr.heap.size wr we) := ⟨hBt.out.trans (hbe.mono hBt.out.size)⟩
                      clear hBt hbe
                      refine go_calms [14, 15] 0 rfl (by kernel_rfl) (by kernel_rfl) (by kernel_rfl) True.intro ?_
                      simp [nth]
                      try simp only [Act.put]
                      repeat (go_big_quiet_step (first | exact fun _ => rfl | rfl))
                      refine wpQuiet_nil ?_
                      refine go_done (by kernel_rfl) ?_
                      go_simp
                      go_wp2_with fail
                      exact ⟨⟨k + 1, by omega, by omega, by rw [hy.out], by go_num, ⟨hP3.out.below hBe.out hP3.out.lt⟩, ⟨hR3.out.below hBe.out hR3.out.lt⟩, ⟨hB3.out.trans (hBe.out.mono hB3.out.size)⟩⟩, by simp [intOf]; omega⟩
                  · have hcv17 := own_text hO2_11.out
                    rw [show (⟨[UInt8.ofNat k].toArray⟩ : ByteArray) = by1 k from rfl] at hcv17
                    go_simp
                    refine hK _ _ True.intro ?_
                    clear hK K hcv17 hO2_11
                    refine go_forced 5 (by kernel_rfl) (goOp_wp 5 rfl rfl (fun K hK => ?_))
                    go_simp
                    refine hK _ _ True.intro ?_
                    clear hK K
                    have hB18 : Box (Below wr.heap.size wr (w11.alloc (.cells #[Value.int .u8 (i : Int)] 5))) := ⟨hB11.out.alloc hB11.out.size _⟩
                    have hO1_18 := Box.mk (own_oneN w11 i hi256)
                    clear hB11
                    obtain ⟨a18, ha18⟩ : ∃ a, w11.heap.size = a := ⟨_, rfl⟩
                    rw [ha18] at hO1_18 ⊢
                    generalize w11.alloc (.cells #[Value.int .u8 (i : Int)] 5) = w18 at hB18 hO1_18 ⊢
                    clear ha18
                    refine go_forced 6 (by kernel_rfl) (goOp_wp 6 rfl rfl (fun K hK => ?_))
                    have hcv19 := own_text hO1_18.out
                    rw [show (⟨[UInt8.ofNat i].toArray⟩ : ByteArray) = by1 i from rfl] at hcv19
                    go_simp
                    refine hK _ _ True.intro ?_
                    clear hK K hcv19 hO1_18
                    refine go_forced 12 (by kernel_rfl) (goOp_wp 12 rfl rfl (fun K hK => ?_))
                    go_simp
                    refine hK _ _ True.intro ?_
                    clear hK K
                    have hF := hTg w18
                    have hBt : Box (Below wr.heap.size wr (w18.alloc (.cells #[.string (by2 n), .string (by1 i), .string (by1 k), .string z] 9))) := ⟨hB18.out.alloc hB18.out.size _⟩
                    clear hTg hB18 hNum
                    refine go_forced 13 (by kernel_rfl) (goOp_wp 13 rfl rfl (fun K hK => ?_))
                    go_simp
                    refine hF.mono ?_
                    rintro e we ⟨rfl, hbe⟩
                    refine hK _ _ True.intro ?_
                    clear hK K hF
                    have hBe : Box (Below wr.heap.size wr we) := ⟨hBt.out.trans (hbe.mono hBt.out.size)⟩
                    clear hBt hbe
                    refine go_calms [14, 15] 0 rfl (by kernel_rfl) (by kernel_rfl) (by kernel_rfl) True.intro ?_
                    simp [nth]
                    try simp only [Act.put]
                    repeat (go_big_quiet_step (first | exact fun _ => rfl | rfl))
                    refine wpQuiet_nil ?_
                    refine go_done (by kernel_rfl) ?_
                    go_simp
                    go_wp2_with fail
                    exact ⟨⟨k + 1, by omega, by omega, by rw [hy.out], by go_num, ⟨hP3.out.below hBe.out hP3.out.lt⟩, ⟨hR3.out.below hBe.out hR3.out.lt⟩, ⟨hB3.out.trans (hBe.out.mono hB3.out.size)⟩⟩, by simp [intOf]; omega⟩
              · go_simp
                refine hK _ _ True.intro ?_
                clear hK K
                have hB20 : Box (Below wr.heap.size wr (wd.alloc (.cells #[Value.int .u8 (i : Int)] 5))) := ⟨hBd.out.alloc hBd.out.size _⟩
                have hO1_20 := Box.mk (own_oneN wd i hi256)
                clear hBd
                obtain ⟨a20, ha20⟩ : ∃ a, wd.heap.size = a := ⟨_, rfl⟩
                rw [ha20] at hO1_20 ⊢
                generalize wd.alloc (.cells #[Value.int .u8 (i : Int)] 5) = w20 at hB20 hO1_20 ⊢
                clear ha20
                refine go_fork3 2 6 9 (by kernel_rfl) (goOp_wp 2 rfl rfl (fun K hK => ?_)) (goOp_wp 6 rfl rfl (fun K hK => ?_)) (goOp_wp 9 rfl rfl (fun K hK => ?_))
                · go_simp
                  refine (hNum w20).mono ?_
                  rintro e w21 ⟨rfl, hb21⟩
                  refine hK _ _ True.intro ?_
                  clear hK K
                  have hB21 : Box (Below wr.heap.size wr w21) := ⟨hB20.out.trans (hb21.mono hB20.out.size)⟩
                  have hO1_21 := Box.mk (ownsRow_below hO1_20.out hb21)
                  clear hb21 hB20 hO1_20
                  refine go_fork 6 9 (by kernel_rfl) (goOp_wp 6 rfl rfl (fun K hK => ?_)) (goOp_wp 9 rfl rfl (fun K hK => ?_))
                  · have hcv22 := own_text hO1_21.out
                    rw [show (⟨[UInt8.ofNat i].toArray⟩ : ByteArray) = by1 i from rfl] at hcv22
                    go_simp
                    refine hK _ _ True.intro ?_
                    clear hK K hcv22 hO1_21
                    refine go_forced 9 (by kernel_rfl) (goOp_wp 9 rfl rfl (fun K hK => ?_))
                    go_simp
                    refine hK _ _ True.intro ?_
                    clear hK K
                    have hB23 : Box (Below wr.heap.size wr (w21.alloc (.cells #[Value.int .u8 (k : Int)] 5))) := ⟨hB21.out.alloc hB21.out.size _⟩
                    have hO2_23 := Box.mk (own_oneN w21 k hk256)
                    clear hB21
                    obtain ⟨a23, ha23⟩ : ∃ a, w21.heap.size = a := ⟨_, rfl⟩
                    rw [ha23] at hO2_23 ⊢
                    generalize w21.alloc (.cells #[Value.int .u8 (k : Int)] 5) = w23 at hB23 hO2_23 ⊢
                    clear ha23
                    refine go_forced 10 (by kernel_rfl) (goOp_wp 10 rfl rfl (fun K hK => ?_))
                    have hcv24 := own_text hO2_23.out
                    rw [show (⟨[UInt8.ofNat k].toArray⟩ : ByteArray) = by1 k from rfl] at hcv24
                    go_simp
                    refine hK _ _ True.intro ?_
                    clear hK K hcv24 hO2_23
                    refine go_forced 12 (by kernel_rfl) (goOp_wp 12 rfl rfl (fun K hK => ?_))
                    go_simp
                    refine hK _ _ True.intro ?_
                    clear hK K
                    have hF := hTg w23
                    have hBt : Box (Below wr.heap.size wr (w23.alloc (.cells #[.string (by2 n), .string (by1 i), .string (by1 k), .string z] 9))) := ⟨hB23.out.alloc hB23.out.size _⟩
                    clear hTg hB23 hNum
                    refine go_forced 13 (by kernel_rfl) (goOp_wp 13 rfl rfl (fun K hK => ?_))
                    go_simp
                    refine hF.mono ?_
                    rintro e we ⟨rfl, hbe⟩
                    refine hK _ _ True.intro ?_
                    clear hK K hF
                    have hBe : Box (Below wr.heap.size wr we) := ⟨hBt.out.trans (hbe.mono hBt.out.size)⟩
                    clear hBt hbe
                    refine go_calms [14, 15] 0 rfl (by kernel_rfl) (by kernel_rfl) (by kernel_rfl) True.intro ?_
                    simp [nth]
                    try simp only [Act.put]
                    repeat (go_big_quiet_step (first | exact fun _ => rfl | rfl))
                    refine wpQuiet_nil ?_
                    refine go_done (by kernel_rfl) ?_
                    go_simp
                    go_wp2_with fail
                    exact ⟨⟨k + 1, by omega, by omega, by rw [hy.out], by go_num, ⟨hP3.out.below hBe.out hP3.out.lt⟩, ⟨hR3.out.below hBe.out hR3.out.lt⟩, ⟨hB3.out.trans (hBe.out.mono hB3.out.size)⟩⟩, by simp [intOf]; omega⟩
                  · go_simp
                    refine hK _ _ True.intro ?_
                    clear hK K
                    have hB25 : Box (Below wr.heap.size wr (w21.alloc (.cells #[Value.int .u8 (k : Int)] 5))) := ⟨hB21.out.alloc hB21.out.size _⟩
                    have hO2_25 := Box.mk (own_oneN w21 k hk256)
                    have hO1_25 : Box _ := ⟨hO1_21.out.alloc (.cells #[Value.int .u8 (k : Int)] 5)⟩
                    clear hB21 hO1_21
                    obtain ⟨a25, ha25⟩ : ∃ a, w21.heap.size = a := ⟨_, rfl⟩
                    rw [ha25] at hO2_25 ⊢
                    generalize w21.alloc (.cells #[Value.int .u8 (k : Int)] 5) = w25 at hB25 hO1_25 hO2_25 ⊢
                    clear ha25
                    refine go_fork 6 10 (by kernel_rfl) (goOp_wp 6 rfl rfl (fun K hK => ?_)) (goOp_wp 10 rfl rfl (fun K hK => ?_))
                    · have hcv26 := own_text hO1_25.out
                      rw [show (⟨[UInt8.ofNat i].toArray⟩ : ByteArray) = by1 i from rfl] at hcv26
                      go_simp
                      refine hK _ _ True.intro ?_
                      clear hK K hcv26 hO1_25
                      refine go_forced 10 (by kernel_rfl) (goOp_wp 10 rfl rfl (fun K hK => ?_))
                      have hcv27 := own_text hO2_25.out
                      rw [show (⟨[UInt8.ofNat k].toArray⟩ : ByteArray) = by1 k from rfl] at hcv27
                      go_simp
                      refine hK _ _ True.intro ?_
                      clear hK K hcv27 hO2_25
                      refine go_forced 12 (by kernel_rfl) (goOp_wp 12 rfl rfl (fun K hK => ?_))
                      go_simp
                      refine hK _ _ True.intro ?_
                      clear hK K
                      have hF := hTg w25
                      have hBt : Box (Below wr.heap.size wr (w25.alloc (.cells #[.string (by2 n), .string (by1 i), .string (by1 k), .string z] 9))) := ⟨hB25.out.alloc hB25.out.size _⟩
                      clear hTg hB25 hNum
                      refine go_forced 13 (by kernel_rfl) (goOp_wp 13 rfl rfl (fun K hK => ?_))
                      go_simp
                      refine hF.mono ?_
                      rintro e we ⟨rfl, hbe⟩
                      refine hK _ _ True.intro ?_
                      clear hK K hF
                      have hBe : Box (Below wr.heap.size wr we) := ⟨hBt.out.trans (hbe.mono hBt.out.size)⟩
                      clear hBt hbe
                      refine go_calms [14, 15] 0 rfl (by kernel_rfl) (by kernel_rfl) (by kernel_rfl) True.intro ?_
                      simp [nth]
                      try simp only [Act.put]
                      repeat (go_big_quiet_step (first | exact fun _ => rfl | rfl))
                      refine wpQuiet_nil ?_
                      refine go_done (by kernel_rfl) ?_
                      go_simp
                      go_wp2_with fail
                      exact ⟨⟨k + 1, by omega, by omega, by rw [hy.out], by go_num, ⟨hP3.out.below hBe.out hP3.out.lt⟩, ⟨hR3.out.below hBe.out hR3.out.lt⟩, ⟨hB3.out.trans (hBe.out.mono hB3.out.size)⟩⟩, by simp [intOf]; omega⟩
                    · have hcv28 := own_text hO2_25.out
                      rw [show (⟨[UInt8.ofNat k].toArray⟩ : ByteArray) = by1 k from rfl] at hcv28
                      go_simp
                      refine hK _ _ True.intro ?_
                      clear hK K hcv28 hO2_25
                      refine go_forced 6 (by kernel_rfl) (goOp_wp 6 rfl rfl (fun K hK => ?_))
                      have hcv29 := own_text hO1_25.out
                      rw [show (⟨[UInt8.ofNat i].toArray⟩ : ByteArray) = by1 i from rfl] at hcv29
                      go_simp
                      refine hK _ _ True.intro ?_
                      clear hK K hcv29 hO1_25
                      refine go_forced 12 (by kernel_rfl) (goOp_wp 12 rfl rfl (fun K hK => ?_))
                      go_simp
                      refine hK _ _ True.intro ?_
                      clear hK K
                      have hF := hTg w25
                      have hBt : Box (Below wr.heap.size wr (w25.alloc (.cells #[.string (by2 n), .string (by1 i), .string (by1 k), .string z] 9))) := ⟨hB25.out.alloc hB25.out.size _⟩
                      clear hTg hB25 hNum
                      refine go_forced 13 (by kernel_rfl) (goOp_wp 13 rfl rfl (fun K hK => ?_))
                      go_simp
                      refine hF.mono ?_
                      rintro e we ⟨rfl, hbe⟩
                      refine hK _ _ True.intro ?_
                      clear hK K hF
                      have hBe : Box (Below wr.heap.size wr we) := ⟨hBt.out.trans (hbe.mono hBt.out.size)⟩
                      clear hBt hbe
                      refine go_calms [14, 15] 0 rfl (by kernel_rfl) (by kernel_rfl) (by kernel_rfl) True.intro ?_
                      simp [nth]
                      try simp only [Act.put]
                      repeat (go_big_quiet_step (first | exact fun _ => rfl | rfl))
                      refine wpQuiet_nil ?_
                      refine go_done (by kernel_rfl) ?_
                      go_simp
                      go_wp2_with fail
                      exact ⟨⟨k + 1, by omega, by omega, by rw [hy.out], by go_num, ⟨hP3.out.below hBe.out hP3.out.lt⟩, ⟨hR3.out.below hBe.out hR3.out.lt⟩, ⟨hB3.out.trans (hBe.out.mono hB3.out.size)⟩⟩, by simp [intOf]; omega⟩
                · have hcv30 := own_text hO1_20.out
                  rw [show (⟨[UInt8.ofNat i].toArray⟩ : ByteArray) = by1 i from rfl] at hcv30
                  go_simp
                  refine hK _ _ True.intro ?_
                  clear hK K hcv30 hO1_20
                  refine go_fork 2 9 (by kernel_rfl) (goOp_wp 2 rfl rfl (fun K hK => ?_)) (goOp_wp 9 rfl rfl (fun K hK => ?_))
                  · go_simp
                    refine (hNum w20).mono ?_
                    rintro e w31 ⟨rfl, hb31⟩
                    refine hK _ _ True.intro ?_
                    clear hK K
                    have hB31 : Box (Below wr.heap.size wr w31) := ⟨hB20.out.trans (hb31.mono hB20.out.size)⟩
                    clear hb31 hB20
                    refine go_forced 9 (by kernel_rfl) (goOp_wp 9 rfl rfl (fun K hK => ?_))
                    go_simp
                    refine hK _ _ True.intro ?_
                    clear hK K
                    have hB32 : Box (Below wr.heap.size wr (w31.alloc (.cells #[Value.int .u8 (k : Int)] 5))) := ⟨hB31.out.alloc hB31.out.size _⟩
                    have hO2_32 := Box.mk (own_oneN w31 k hk256)
                    clear hB31
                    obtain ⟨a32, ha32⟩ : ∃ a, w31.heap.size = a := ⟨_, rfl⟩
                    rw [ha32] at hO2_32 ⊢
                    generalize w31.alloc (.cells #[Value.int .u8 (k : Int)] 5) = w32 at hB32 hO2_32 ⊢
                    clear ha32
                    refine go_forced 10 (by kernel_rfl) (goOp_wp 10 rfl rfl (fun K hK => ?_))
                    have hcv33 := own_text hO2_32.out
                    rw [show (⟨[UInt8.ofNat k].toArray⟩ : ByteArray) = by1 k from rfl] at hcv33
                    go_simp
                    refine hK _ _ True.intro ?_
                    clear hK K hcv33 hO2_32
                    refine go_forced 12 (by kernel_rfl) (goOp_wp 12 rfl rfl (fun K hK => ?_))
                    go_simp
                    refine hK _ _ True.intro ?_
                    clear hK K
                    have hF := hTg w32
                    have hBt : Box (Below wr.heap.size wr (w32.alloc (.cells #[.string (by2 n), .string (by1 i), .string (by1 k), .string z] 9))) := ⟨hB32.out.alloc hB32.out.size _⟩
                    clear hTg hB32 hNum
                    refine go_forced 13 (by kernel_rfl) (goOp_wp 13 rfl rfl (fun K hK => ?_))
                    go_simp
                    refine hF.mono ?_
                    rintro e we ⟨rfl, hbe⟩
                    refine hK _ _ True.intro ?_
                    clear hK K hF
                    have hBe : Box (Below wr.heap.size wr we) := ⟨hBt.out.trans (hbe.mono hBt.out.size)⟩
                    clear hBt hbe
                    refine go_calms [14, 15] 0 rfl (by kernel_rfl) (by kernel_rfl) (by kernel_rfl) True.intro ?_
                    simp [nth]
                    try simp only [Act.put]
                    repeat (go_big_quiet_step (first | exact fun _ => rfl | rfl))
                    refine wpQuiet_nil ?_
                    refine go_done (by kernel_rfl) ?_
                    go_simp
                    go_wp2_with fail
                    exact ⟨⟨k + 1, by omega, by omega, by rw [hy.out], by go_num, ⟨hP3.out.below hBe.out hP3.out.lt⟩, ⟨hR3.out.below hBe.out hR3.out.lt⟩, ⟨hB3.out.trans (hBe.out.mono hB3.out.size)⟩⟩, by simp [intOf]; omega⟩
                  · go_simp
                    refine hK _ _ True.intro ?_
                    clear hK K
                    have hB34 : Box (Below wr.heap.size wr (w20.alloc (.cells #[Value.int .u8 (k : Int)] 5))) := ⟨hB20.out.alloc hB20.out.size _⟩
                    have hO2_34 := Box.mk (own_oneN w20 k hk256)
                    clear hB20
                    obtain ⟨a34, ha34⟩ : ∃ a, w20.heap.size = a := ⟨_, rfl⟩
                    rw [ha34] at hO2_34 ⊢
                    generalize w20.alloc (.cells #[Value.int .u8 (k : Int)] 5) = w34 at hB34 hO2_34 ⊢
                    clear ha34
                    refine go_fork 2 10 (by kernel_rfl) (goOp_wp 2 rfl rfl (fun K hK => ?_)) (goOp_wp 10 rfl rfl (fun K hK => ?_))
                    · go_simp
                      refine (hNum w34).mono ?_
                      rintro e w35 ⟨rfl, hb35⟩
                      refine hK _ _ True.intro ?_
                      clear hK K
                      have hB35 : Box (Below wr.heap.size wr w35) := ⟨hB34.out.trans (hb35.mono hB34.out.size)⟩
                      have hO2_35 := Box.mk (ownsRow_below hO2_34.out hb35)
                      clear hb35 hB34 hO2_34
                      refine go_forced 10 (by kernel_rfl) (goOp_wp 10 rfl rfl (fun K hK => ?_))
                      have hcv36 := own_text hO2_35.out
                      rw [show (⟨[UInt8.ofNat k].toArray⟩ : ByteArray) = by1 k from rfl] at hcv36
                      go_simp
                      refine hK _ _ True.intro ?_
                      clear hK K hcv36 hO2_35
                      refine go_forced 12 (by kernel_rfl) (goOp_wp 12 rfl rfl (fun K hK => ?_))
                      go_simp
                      refine hK _ _ True.intro ?_
                      clear hK K
                      have hF := hTg w35
                      have hBt : Box (Below wr.heap.size wr (w35.alloc (.cells #[.string (by2 n), .string (by1 i), .string (by1 k), .string z] 9))) := ⟨hB35.out.alloc hB35.out.size _⟩
                      clear hTg hB35 hNum
                      refine go_forced 13 (by kernel_rfl) (goOp_wp 13 rfl rfl (fun K hK => ?_))
                      go_simp
                      refine hF.mono ?_
                      rintro e we ⟨rfl, hbe⟩
                      refine hK _ _ True.intro ?_
                      clear hK K hF
                      have hBe : Box (Below wr.heap.size wr we) := ⟨hBt.out.trans (hbe.mono hBt.out.size)⟩
                      clear hBt hbe
                      refine go_calms [14, 15] 0 rfl (by kernel_rfl) (by kernel_rfl) (by kernel_rfl) True.intro ?_
                      simp [nth]
                      try simp only [Act.put]
                      repeat (go_big_quiet_step (first | exact fun _ => rfl | rfl))
                      refine wpQuiet_nil ?_
                      refine go_done (by kernel_rfl) ?_
                      go_simp
                      go_wp2_with fail
                      exact ⟨⟨k + 1, by omega, by omega, by rw [hy.out], by go_num, ⟨hP3.out.below hBe.out hP3.out.lt⟩, ⟨hR3.out.below hBe.out hR3.out.lt⟩, ⟨hB3.out.trans (hBe.out.mono hB3.out.size)⟩⟩, by simp [intOf]; omega⟩
                    · have hcv37 := own_text hO2_34.out
                      rw [show (⟨[UInt8.ofNat k].toArray⟩ : ByteArray) = by1 k from rfl] at hcv37
                      go_simp
                      refine hK _ _ True.intro ?_
                      clear hK K hcv37 hO2_34
                      refine go_forced 2 (by kernel_rfl) (goOp_wp 2 rfl rfl (fun K hK => ?_))
                      go_simp
                      refine (hNum w34).mono ?_
                      rintro e w38 ⟨rfl, hb38⟩
                      refine hK _ _ True.intro ?_
                      clear hK K
                      have hB38 : Box (Below wr.heap.size wr w38) := ⟨hB34.out.trans (hb38.mono hB34.out.size)⟩
                      clear hb38 hB34
                      refine go_forced 12 (by kernel_rfl) (goOp_wp 12 rfl rfl (fun K hK => ?_))
                      go_simp
                      refine hK _ _ True.intro ?_
                      clear hK K
                      have hF := hTg w38
                      have hBt : Box (Below wr.heap.size wr (w38.alloc (.cells #[.string (by2 n), .string (by1 i), .string (by1 k), .string z] 9))) := ⟨hB38.out.alloc hB38.out.size _⟩
                      clear hTg hB38 hNum
                      refine go_forced 13 (by kernel_rfl) (goOp_wp 13 rfl rfl (fun K hK => ?_))
                      go_simp
                      refine hF.mono ?_
                      rintro e we ⟨rfl, hbe⟩
                      refine hK _ _ True.intro ?_
                      clear hK K hF
                      have hBe : Box (Below wr.heap.size wr we) := ⟨hBt.out.trans (hbe.mono hBt.out.size)⟩
                      clear hBt hbe
                      refine go_calms [14, 15] 0 rfl (by kernel_rfl) (by kernel_rfl) (by kernel_rfl) True.intro ?_
                      simp [nth]
                      try simp only [Act.put]
                      repeat (go_big_quiet_step (first | exact fun _ => rfl | rfl))
                      refine wpQuiet_nil ?_
                      refine go_done (by kernel_rfl) ?_
                      go_simp
                      go_wp2_with fail
                      exact ⟨⟨k + 1, by omega, by omega, by rw [hy.out], by go_num, ⟨hP3.out.below hBe.out hP3.out.lt⟩, ⟨hR3.out.below hBe.out hR3.out.lt⟩, ⟨hB3.out.trans (hBe.out.mono hB3.out.size)⟩⟩, by simp [intOf]; omega⟩
                · go_simp
                  refine hK _ _ True.intro ?_
                  clear hK K
                  have hB39 : Box (Below wr.heap.size wr (w20.alloc (.cells #[Value.int .u8 (k : Int)] 5))) := ⟨hB20.out.alloc hB20.out.size _⟩
                  have hO2_39 := Box.mk (own_oneN w20 k hk256)
                  have hO1_39 : Box _ := ⟨hO1_20.out.alloc (.cells #[Value.int .u8 (k : Int)] 5)⟩
                  clear hB20 hO1_20
                  obtain ⟨a39, ha39⟩ : ∃ a, w20.heap.size = a := ⟨_, rfl⟩
                  rw [ha39] at hO2_39 ⊢
                  generalize w20.alloc (.cells #[Value.int .u8 (k : Int)] 5) = w39 at hB39 hO1_39 hO2_39 ⊢
                  clear ha39
                  refine go_fork3 2 6 10 (by kernel_rfl) (goOp_wp 2 rfl rfl (fun K hK => ?_)) (goOp_wp 6 rfl rfl (fun K hK => ?_)) (goOp_wp 10 rfl rfl (fun K hK => ?_))
                  · go_simp
                    refine (hNum w39).mono ?_
                    rintro e w40 ⟨rfl, hb40⟩
                    refine hK _ _ True.intro ?_
                    clear hK K
                    have hB40 : Box (Below wr.heap.size wr w40) := ⟨hB39.out.trans (hb40.mono hB39.out.size)⟩
                    have hO1_40 := Box.mk (ownsRow_below hO1_39.out hb40)
                    have hO2_40 := Box.mk (ownsRow_below hO2_39.out hb40)
                    clear hb40 hB39 hO1_39 hO2_39
                    refine go_fork 6 10 (by kernel_rfl) (goOp_wp 6 rfl rfl (fun K hK => ?_)) (goOp_wp 10 rfl rfl (fun K hK => ?_))
                    · have hcv41 := own_text hO1_40.out
                      rw [show (⟨[UInt8.ofNat i].toArray⟩ : ByteArray) = by1 i from rfl] at hcv41
                      go_simp
                      refine hK _ _ True.intro ?_
                      clear hK K hcv41 hO1_40
                      refine go_forced 10 (by kernel_rfl) (goOp_wp 10 rfl rfl (fun K hK => ?_))
                      have hcv42 := own_text hO2_40.out
                      rw [show (⟨[UInt8.ofNat k].toArray⟩ : ByteArray) = by1 k from rfl] at hcv42
                      go_simp
                      refine hK _ _ True.intro ?_
                      clear hK K hcv42 hO2_40
                      refine go_forced 12 (by kernel_rfl) (goOp_wp 12 rfl rfl (fun K hK => ?_))
                      go_simp
                      refine hK _ _ True.intro ?_
                      clear hK K
                      have hF := hTg w40
                      have hBt : Box (Below wr.heap.size wr (w40.alloc (.cells #[.string (by2 n), .string (by1 i), .string (by1 k), .string z] 9))) := ⟨hB40.out.alloc hB40.out.size _⟩
                      clear hTg hB40 hNum
                      refine go_forced 13 (by kernel_rfl) (goOp_wp 13 rfl rfl (fun K hK => ?_))
                      go_simp
                      refine hF.mono ?_
                      rintro e we ⟨rfl, hbe⟩
                      refine hK _ _ True.intro ?_
                      clear hK K hF
                      have hBe : Box (Below wr.heap.size wr we) := ⟨hBt.out.trans (hbe.mono hBt.out.size)⟩
                      clear hBt hbe
                      refine go_calms [14, 15] 0 rfl (by kernel_rfl) (by kernel_rfl) (by kernel_rfl) True.intro ?_
                      simp [nth]
                      try simp only [Act.put]
                      repeat (go_big_quiet_step (first | exact fun _ => rfl | rfl))
                      refine wpQuiet_nil ?_
                      refine go_done (by kernel_rfl) ?_
                      go_simp
                      go_wp2_with fail
                      exact ⟨⟨k + 1, by omega, by omega, by rw [hy.out], by go_num, ⟨hP3.out.below hBe.out hP3.out.lt⟩, ⟨hR3.out.below hBe.out hR3.out.lt⟩, ⟨hB3.out.trans (hBe.out.mono hB3.out.size)⟩⟩, by simp [intOf]; omega⟩
                    · have hcv43 := own_text hO2_40.out
                      rw [show (⟨[UInt8.ofNat k].toArray⟩ : ByteArray) = by1 k from rfl] at hcv43
                      go_simp
                      refine hK _ _ True.intro ?_
                      clear hK K hcv43 hO2_40
                      refine go_forced 6 (by kernel_rfl) (goOp_wp 6 rfl rfl (fun K hK => ?_))
                      have hcv44 := own_text hO1_40.out
                      rw [show (⟨[UInt8.ofNat i].toArray⟩ : ByteArray) = by1 i from rfl] at hcv44
                      go_simp
                      refine hK _ _ True.intro ?_
                      clear hK K hcv44 hO1_40
                      refine go_forced 12 (by kernel_rfl) (goOp_wp 12 rfl rfl (fun K hK => ?_))
                      go_simp
                      refine hK _ _ True.intro ?_
                      clear hK K
                      have hF := hTg w40
                      have hBt : Box (Below wr.heap.size wr (w40.alloc (.cells #[.string (by2 n), .string (by1 i), .string (by1 k), .string z] 9))) := ⟨hB40.out.alloc hB40.out.size _⟩
                      clear hTg hB40 hNum
                      refine go_forced 13 (by kernel_rfl) (goOp_wp 13 rfl rfl (fun K hK => ?_))
                      go_simp
                      refine hF.mono ?_
                      rintro e we ⟨rfl, hbe⟩
                      refine hK _ _ True.intro ?_
                      clear hK K hF
                      have hBe : Box (Below wr.heap.size wr we) := ⟨hBt.out.trans (hbe.mono hBt.out.size)⟩
                      clear hBt hbe
                      refine go_calms [14, 15] 0 rfl (by kernel_rfl) (by kernel_rfl) (by kernel_rfl) True.intro ?_
                      simp [nth]
                      try simp only [Act.put]
                      repeat (go_big_quiet_step (first | exact fun _ => rfl | rfl))
                      refine wpQuiet_nil ?_
                      refine go_done (by kernel_rfl) ?_
                      go_simp
                      go_wp2_with fail
                      exact ⟨⟨k + 1, by omega, by omega, by rw [hy.out], by go_num, ⟨hP3.out.below hBe.out hP3.out.lt⟩, ⟨hR3.out.below hBe.out hR3.out.lt⟩, ⟨hB3.out.trans (hBe.out.mono hB3.out.size)⟩⟩, by simp [intOf]; omega⟩
                  · have hcv45 := own_text hO1_39.out
                    rw [show (⟨[UInt8.ofNat i].toArray⟩ : ByteArray) = by1 i from rfl] at hcv45
                    go_simp
                    refine hK _ _ True.intro ?_
                    clear hK K hcv45 hO1_39
                    refine go_fork 2 10 (by kernel_rfl) (goOp_wp 2 rfl rfl (fun K hK => ?_)) (goOp_wp 10 rfl rfl (fun K hK => ?_))
                    · go_simp
                      refine (hNum w39).mono ?_
                      rintro e w46 ⟨rfl, hb46⟩
                      refine hK _ _ True.intro ?_
                      clear hK K
                      have hB46 : Box (Below wr.heap.size wr w46) := ⟨hB39.out.trans (hb46.mono hB39.out.size)⟩
                      have hO2_46 := Box.mk (ownsRow_below hO2_39.out hb46)
                      clear hb46 hB39 hO2_39
                      refine go_forced 10 (by kernel_rfl) (goOp_wp 10 rfl rfl (fun K hK => ?_))
                      have hcv47 := own_text hO2_46.out
                      rw [show (⟨[UInt8.ofNat k].toArray⟩ : ByteArray) = by1 k from rfl] at hcv47
                      go_simp
                      refine hK _ _ True.intro ?_
                      clear hK K hcv47 hO2_46
                      refine go_forced 12 (by kernel_rfl) (goOp_wp 12 rfl rfl (fun K hK => ?_))
                      go_simp
                      refine hK _ _ True.intro ?_
                      clear hK K
                      have hF := hTg w46
                      have hBt : Box (Below wr.heap.size wr (w46.alloc (.cells #[.string (by2 n), .string (by1 i), .string (by1 k), .string z] 9))) := ⟨hB46.out.alloc hB46.out.size _⟩
                      clear hTg hB46 hNum
                      refine go_forced 13 (by kernel_rfl) (goOp_wp 13 rfl rfl (fun K hK => ?_))
                      go_simp
                      refine hF.mono ?_
                      rintro e we ⟨rfl, hbe⟩
                      refine hK _ _ True.intro ?_
                      clear hK K hF
                      have hBe : Box (Below wr.heap.size wr we) := ⟨hBt.out.trans (hbe.mono hBt.out.size)⟩
                      clear hBt hbe
                      refine go_calms [14, 15] 0 rfl (by kernel_rfl) (by kernel_rfl) (by kernel_rfl) True.intro ?_
                      simp [nth]
                      try simp only [Act.put]
                      repeat (go_big_quiet_step (first | exact fun _ => rfl | rfl))
                      refine wpQuiet_nil ?_
                      refine go_done (by kernel_rfl) ?_
                      go_simp
                      go_wp2_with fail
                      exact ⟨⟨k + 1, by omega, by omega, by rw [hy.out], by go_num, ⟨hP3.out.below hBe.out hP3.out.lt⟩, ⟨hR3.out.below hBe.out hR3.out.lt⟩, ⟨hB3.out.trans (hBe.out.mono hB3.out.size)⟩⟩, by simp [intOf]; omega⟩
                    · have hcv48 := own_text hO2_39.out
                      rw [show (⟨[UInt8.ofNat k].toArray⟩ : ByteArray) = by1 k from rfl] at hcv48
                      go_simp
                      refine hK _ _ True.intro ?_
                      clear hK K hcv48 hO2_39
                      refine go_forced 2 (by kernel_rfl) (goOp_wp 2 rfl rfl (fun K hK => ?_))
                      go_simp
                      refine (hNum w39).mono ?_
                      rintro e w49 ⟨rfl, hb49⟩
                      refine hK _ _ True.intro ?_
                      clear hK K
                      have hB49 : Box (Below wr.heap.size wr w49) := ⟨hB39.out.trans (hb49.mono hB39.out.size)⟩
                      clear hb49 hB39
                      refine go_forced 12 (by kernel_rfl) (goOp_wp 12 rfl rfl (fun K hK => ?_))
                      go_simp
                      refine hK _ _ True.intro ?_
                      clear hK K
                      have hF := hTg w49
                      have hBt : Box (Below wr.heap.size wr (w49.alloc (.cells #[.string (by2 n), .string (by1 i), .string (by1 k), .string z] 9))) := ⟨hB49.out.alloc hB49.out.size _⟩
                      clear hTg hB49 hNum
                      refine go_forced 13 (by kernel_rfl) (goOp_wp 13 rfl rfl (fun K hK => ?_))
                      go_simp
                      refine hF.mono ?_
                      rintro e we ⟨rfl, hbe⟩
                      refine hK _ _ True.intro ?_
                      clear hK K hF
                      have hBe : Box (Below wr.heap.size wr we) := ⟨hBt.out.trans (hbe.mono hBt.out.size)⟩
                      clear hBt hbe
                      refine go_calms [14, 15] 0 rfl (by kernel_rfl) (by kernel_rfl) (by kernel_rfl) True.intro ?_
                      simp [nth]
                      try simp only [Act.put]
                      repeat (go_big_quiet_step (first | exact fun _ => rfl | rfl))
                      refine wpQuiet_nil ?_
                      refine go_done (by kernel_rfl) ?_
                      go_simp
                      go_wp2_with fail
                      exact ⟨⟨k + 1, by omega, by omega, by rw [hy.out], by go_num, ⟨hP3.out.below hBe.out hP3.out.lt⟩, ⟨hR3.out.below hBe.out hR3.out.lt⟩, ⟨hB3.out.trans (hBe.out.mono hB3.out.size)⟩⟩, by simp [intOf]; omega⟩
                  · have hcv50 := own_text hO2_39.out
                    rw [show (⟨[UInt8.ofNat k].toArray⟩ : ByteArray) = by1 k from rfl] at hcv50
                    go_simp
                    refine hK _ _ True.intro ?_
                    clear hK K hcv50 hO2_39
                    refine go_fork 2 6 (by kernel_rfl) (goOp_wp 2 rfl rfl (fun K hK => ?_)) (goOp_wp 6 rfl rfl (fun K hK => ?_))
                    · go_simp
                      refine (hNum w39).mono ?_
                      rintro e w51 ⟨rfl, hb51⟩
                      refine hK _ _ True.intro ?_
                      clear hK K
                      have hB51 : Box (Below wr.heap.size wr w51) := ⟨hB39.out.trans (hb51.mono hB39.out.size)⟩
                      have hO1_51 := Box.mk (ownsRow_below hO1_39.out hb51)
                      clear hb51 hB39 hO1_39
                      refine go_forced 6 (by kernel_rfl) (goOp_wp 6 rfl rfl (fun K hK => ?_))
                      have hcv52 := own_text hO1_51.out
                      rw [show (⟨[UInt8.ofNat i].toArray⟩ : ByteArray) = by1 i from rfl] at hcv52
                      go_simp
                      refine hK _ _ True.intro ?_
                      clear hK K hcv52 hO1_51
                      refine go_forced 12 (by kernel_rfl) (goOp_wp 12 rfl rfl (fun K hK => ?_))
                      go_simp
                      refine hK _ _ True.intro ?_
                      clear hK K
                      have hF := hTg w51
                      have hBt : Box (Below wr.heap.size wr (w51.alloc (.cells #[.string (by2 n), .string (by1 i), .string (by1 k), .string z] 9))) := ⟨hB51.out.alloc hB51.out.size _⟩
                      clear hTg hB51 hNum
                      refine go_forced 13 (by kernel_rfl) (goOp_wp 13 rfl rfl (fun K hK => ?_))
                      go_simp
                      refine hF.mono ?_
                      rintro e we ⟨rfl, hbe⟩
                      refine hK _ _ True.intro ?_
                      clear hK K hF
                      have hBe : Box (Below wr.heap.size wr we) := ⟨hBt.out.trans (hbe.mono hBt.out.size)⟩
                      clear hBt hbe
                      refine go_calms [14, 15] 0 rfl (by kernel_rfl) (by kernel_rfl) (by kernel_rfl) True.intro ?_
                      simp [nth]
                      try simp only [Act.put]
                      repeat (go_big_quiet_step (first | exact fun _ => rfl | rfl))
                      refine wpQuiet_nil ?_
                      refine go_done (by kernel_rfl) ?_
                      go_simp
                      go_wp2_with fail
                      exact ⟨⟨k + 1, by omega, by omega, by rw [hy.out], by go_num, ⟨hP3.out.below hBe.out hP3.out.lt⟩, ⟨hR3.out.below hBe.out hR3.out.lt⟩, ⟨hB3.out.trans (hBe.out.mono hB3.out.size)⟩⟩, by simp [intOf]; omega⟩
                    · have hcv53 := own_text hO1_39.out
                      rw [show (⟨[UInt8.ofNat i].toArray⟩ : ByteArray) = by1 i from rfl] at hcv53
                      go_simp
                      refine hK _ _ True.intro ?_
                      clear hK K hcv53 hO1_39
                      refine go_forced 2 (by kernel_rfl) (goOp_wp 2 rfl rfl (fun K hK => ?_))
                      go_simp
                      refine (hNum w39).mono ?_
                      rintro e w54 ⟨rfl, hb54⟩
                      refine hK _ _ True.intro ?_
                      clear hK K
                      have hB54 : Box (Below wr.heap.size wr w54) := ⟨hB39.out.trans (hb54.mono hB39.out.size)⟩
                      clear hb54 hB39
                      refine go_forced 12 (by kernel_rfl) (goOp_wp 12 rfl rfl (fun K hK => ?_))
                      go_simp
                      refine hK _ _ True.intro ?_
                      clear hK K
                      have hF := hTg w54
                      have hBt : Box (Below wr.heap.size wr (w54.alloc (.cells #[.string (by2 n), .string (by1 i), .string (by1 k), .string z] 9))) := ⟨hB54.out.alloc hB54.out.size _⟩
                      clear hTg hB54 hNum
                      refine go_forced 13 (by kernel_rfl) (goOp_wp 13 rfl rfl (fun K hK => ?_))
                      go_simp
                      refine hF.mono ?_
                      rintro e we ⟨rfl, hbe⟩
                      refine hK _ _ True.intro ?_
                      clear hK K hF
                      have hBe : Box (Below wr.heap.size wr we) := ⟨hBt.out.trans (hbe.mono hBt.out.size)⟩
                      clear hBt hbe
                      refine go_calms [14, 15] 0 rfl (by kernel_rfl) (by kernel_rfl) (by kernel_rfl) True.intro ?_
                      simp [nth]
                      try simp only [Act.put]
                      repeat (go_big_quiet_step (first | exact fun _ => rfl | rfl))
                      refine wpQuiet_nil ?_
                      refine go_done (by kernel_rfl) ?_
                      go_simp
                      go_wp2_with fail
                      exact ⟨⟨k + 1, by omega, by omega, by rw [hy.out], by go_num, ⟨hP3.out.below hBe.out hP3.out.lt⟩, ⟨hR3.out.below hBe.out hR3.out.lt⟩, ⟨hB3.out.trans (hBe.out.mono hB3.out.size)⟩⟩, by simp [intOf]; omega⟩
              · go_simp
                refine hK _ _ True.intro ?_
                clear hK K
                have hB55 : Box (Below wr.heap.size wr (wd.alloc (.cells #[Value.int .u8 (k : Int)] 5))) := ⟨hBd.out.alloc hBd.out.size _⟩
                have hO2_55 := Box.mk (own_oneN wd k hk256)
                clear hBd
                obtain ⟨a55, ha55⟩ : ∃ a, wd.heap.size = a := ⟨_, rfl⟩
                rw [ha55] at hO2_55 ⊢
                generalize wd.alloc (.cells #[Value.int .u8 (k : Int)] 5) = w55 at hB55 hO2_55 ⊢
                clear ha55
                refine go_fork3 2 5 10 (by kernel_rfl) (goOp_wp 2 rfl rfl (fun K hK => ?_)) (goOp_wp 5 rfl rfl (fun K hK => ?_)) (goOp_wp 10 rfl rfl (fun K hK => ?_))
                · go_simp
                  refine (hNum w55).mono ?_
                  rintro e w56 ⟨rfl, hb56⟩
                  refine hK _ _ True.intro ?_
                  clear hK K
                  have hB56 : Box (Below wr.heap.size wr w56) := ⟨hB55.out.trans (hb56.mono hB55.out.size)⟩
                  have hO2_56 := Box.mk (ownsRow_below hO2_55.out hb56)
                  clear hb56 hB55 hO2_55
                  refine go_fork 5 10 (by kernel_rfl) (goOp_wp 5 rfl rfl (fun K hK => ?_)) (goOp_wp 10 rfl rfl (fun K hK => ?_))
                  · go_simp
                    refine hK _ _ True.intro ?_
                    clear hK K
                    have hB57 : Box (Below wr.heap.size wr (w56.alloc (.cells #[Value.int .u8 (i : Int)] 5))) := ⟨hB56.out.alloc hB56.out.size _⟩
                    have hO1_57 := Box.mk (own_oneN w56 i hi256)
                    have hO2_57 : Box _ := ⟨hO2_56.out.alloc (.cells #[Value.int .u8 (i : Int)] 5)⟩
                    clear hB56 hO2_56
                    obtain ⟨a57, ha57⟩ : ∃ a, w56.heap.size = a := ⟨_, rfl⟩
                    rw [ha57] at hO1_57 ⊢
                    generalize w56.alloc (.cells #[Value.int .u8 (i : Int)] 5) = w57 at hB57 hO2_57 hO1_57 ⊢
                    clear ha57
                    refine go_fork 6 10 (by kernel_rfl) (goOp_wp 6 rfl rfl (fun K hK => ?_)) (goOp_wp 10 rfl rfl (fun K hK => ?_))
                    · have hcv58 := own_text hO1_57.out
                      rw [show (⟨[UInt8.ofNat i].toArray⟩ : ByteArray) = by1 i from rfl] at hcv58
                      go_simp
                      refine hK _ _ True.intro ?_
                      clear hK K hcv58 hO1_57
                      refine go_forced 10 (by kernel_rfl) (goOp_wp 10 rfl rfl (fun K hK => ?_))
                      have hcv59 := own_text hO2_57.out
                      rw [show (⟨[UInt8.ofNat k].toArray⟩ : ByteArray) = by1 k from rfl] at hcv59
                      go_simp
                      refine hK _ _ True.intro ?_
                      clear hK K hcv59 hO2_57
                      refine go_forced 12 (by kernel_rfl) (goOp_wp 12 rfl rfl (fun K hK => ?_))
                      go_simp
                      refine hK _ _ True.intro ?_
                      clear hK K
                      have hF := hTg w57
                      have hBt : Box (Below wr.heap.size wr (w57.alloc (.cells #[.string (by2 n), .string (by1 i), .string (by1 k), .string z] 9))) := ⟨hB57.out.alloc hB57.out.size _⟩
                      clear hTg hB57 hNum
                      refine go_forced 13 (by kernel_rfl) (goOp_wp 13 rfl rfl (fun K hK => ?_))
                      go_simp
                      refine hF.mono ?_
                      rintro e we ⟨rfl, hbe⟩
                      refine hK _ _ True.intro ?_
                      clear hK K hF
                      have hBe : Box (Below wr.heap.size wr we) := ⟨hBt.out.trans (hbe.mono hBt.out.size)⟩
                      clear hBt hbe
                      refine go_calms [14, 15] 0 rfl (by kernel_rfl) (by kernel_rfl) (by kernel_rfl) True.intro ?_
                      simp [nth]
                      try simp only [Act.put]
                      repeat (go_big_quiet_step (first | exact fun _ => rfl | rfl))
                      refine wpQuiet_nil ?_
                      refine go_done (by kernel_rfl) ?_
                      go_simp
                      go_wp2_with fail
                      exact ⟨⟨k + 1, by omega, by omega, by rw [hy.out], by go_num, ⟨hP3.out.below hBe.out hP3.out.lt⟩, ⟨hR3.out.below hBe.out hR3.out.lt⟩, ⟨hB3.out.trans (hBe.out.mono hB3.out.size)⟩⟩, by simp [intOf]; omega⟩
                    · have hcv60 := own_text hO2_57.out
                      rw [show (⟨[UInt8.ofNat k].toArray⟩ : ByteArray) = by1 k from rfl] at hcv60
                      go_simp
                      refine hK _ _ True.intro ?_
                      clear hK K hcv60 hO2_57
                      refine go_forced 6 (by kernel_rfl) (goOp_wp 6 rfl rfl (fun K hK => ?_))
                      have hcv61 := own_text hO1_57.out
                      rw [show (⟨[UInt8.ofNat i].toArray⟩ : ByteArray) = by1 i from rfl] at hcv61
                      go_simp
                      refine hK _ _ True.intro ?_
                      clear hK K hcv61 hO1_57
                      refine go_forced 12 (by kernel_rfl) (goOp_wp 12 rfl rfl (fun K hK => ?_))
                      go_simp
                      refine hK _ _ True.intro ?_
                      clear hK K
                      have hF := hTg w57
                      have hBt : Box (Below wr.heap.size wr (w57.alloc (.cells #[.string (by2 n), .string (by1 i), .string (by1 k), .string z] 9))) := ⟨hB57.out.alloc hB57.out.size _⟩
                      clear hTg hB57 hNum
                      refine go_forced 13 (by kernel_rfl) (goOp_wp 13 rfl rfl (fun K hK => ?_))
                      go_simp
                      refine hF.mono ?_
                      rintro e we ⟨rfl, hbe⟩
                      refine hK _ _ True.intro ?_
                      clear hK K hF
                      have hBe : Box (Below wr.heap.size wr we) := ⟨hBt.out.trans (hbe.mono hBt.out.size)⟩
                      clear hBt hbe
                      refine go_calms [14, 15] 0 rfl (by kernel_rfl) (by kernel_rfl) (by kernel_rfl) True.intro ?_
                      simp [nth]
                      try simp only [Act.put]
                      repeat (go_big_quiet_step (first | exact fun _ => rfl | rfl))
                      refine wpQuiet_nil ?_
                      refine go_done (by kernel_rfl) ?_
                      go_simp
                      go_wp2_with fail
                      exact ⟨⟨k + 1, by omega, by omega, by rw [hy.out], by go_num, ⟨hP3.out.below hBe.out hP3.out.lt⟩, ⟨hR3.out.below hBe.out hR3.out.lt⟩, ⟨hB3.out.trans (hBe.out.mono hB3.out.size)⟩⟩, by simp [intOf]; omega⟩
                  · have hcv62 := own_text hO2_56.out
                    rw [show (⟨[UInt8.ofNat k].toArray⟩ : ByteArray) = by1 k from rfl] at hcv62
                    go_simp
                    refine hK _ _ True.intro ?_
                    clear hK K hcv62 hO2_56
                    refine go_forced 5 (by kernel_rfl) (goOp_wp 5 rfl rfl (fun K hK => ?_))
                    go_simp
                    refine hK _ _ True.intro ?_
                    clear hK K
                    have hB63 : Box (Below wr.heap.size wr (w56.alloc (.cells #[Value.int .u8 (i : Int)] 5))) := ⟨hB56.out.alloc hB56.out.size _⟩
                    have hO1_63 := Box.mk (own_oneN w56 i hi256)
                    clear hB56
                    obtain ⟨a63, ha63⟩ : ∃ a, w56.heap.size = a := ⟨_, rfl⟩
                    rw [ha63] at hO1_63 ⊢
                    generalize w56.alloc (.cells #[Value.int .u8 (i : Int)] 5) = w63 at hB63 hO1_63 ⊢
                    clear ha63
                    refine go_forced 6 (by kernel_rfl) (goOp_wp 6 rfl rfl (fun K hK => ?_))
                    have hcv64 := own_text hO1_63.out
                    rw [show (⟨[UInt8.ofNat i].toArray⟩ : ByteArray) = by1 i from rfl] at hcv64
                    go_simp
                    refine hK _ _ True.intro ?_
                    clear hK K hcv64 hO1_63
                    refine go_forced 12 (by kernel_rfl) (goOp_wp 12 rfl rfl (fun K hK => ?_))
                    go_simp
                    refine hK _ _ True.intro ?_
                    clear hK K
                    have hF := hTg w63
                    have hBt : Box (Below wr.heap.size wr (w63.alloc (.cells #[.string (by2 n), .string (by1 i), .string (by1 k), .string z] 9))) := ⟨hB63.out.alloc hB63.out.size _⟩
                    clear hTg hB63 hNum
                    refine go_forced 13 (by kernel_rfl) (goOp_wp 13 rfl rfl (fun K hK => ?_))
                    go_simp
                    refine hF.mono ?_
                    rintro e we ⟨rfl, hbe⟩
                    refine hK _ _ True.intro ?_
                    clear hK K hF
                    have hBe : Box (Below wr.heap.size wr we) := ⟨hBt.out.trans (hbe.mono hBt.out.size)⟩
                    clear hBt hbe
                    refine go_calms [14, 15] 0 rfl (by kernel_rfl) (by kernel_rfl) (by kernel_rfl) True.intro ?_
                    simp [nth]
                    try simp only [Act.put]
                    repeat (go_big_quiet_step (first | exact fun _ => rfl | rfl))
                    refine wpQuiet_nil ?_
                    refine go_done (by kernel_rfl) ?_
                    go_simp
                    go_wp2_with fail
                    exact ⟨⟨k + 1, by omega, by omega, by rw [hy.out], by go_num, ⟨hP3.out.below hBe.out hP3.out.lt⟩, ⟨hR3.out.below hBe.out hR3.out.lt⟩, ⟨hB3.out.trans (hBe.out.mono hB3.out.size)⟩⟩, by simp [intOf]; omega⟩
                · go_simp
                  refine hK _ _ True.intro ?_
                  clear hK K
                  have hB65 : Box (Below wr.heap.size wr (w55.alloc (.cells #[Value.int .u8 (i : Int)] 5))) := ⟨hB55.out.alloc hB55.out.size _⟩
                  have hO1_65 := Box.mk (own_oneN w55 i hi256)
                  have hO2_65 : Box _ := ⟨hO2_55.out.alloc (.cells #[Value.int .u8 (i : Int)] 5)⟩
                  clear hB55 hO2_55
                  obtain ⟨a65, ha65⟩ : ∃ a, w55.heap.size = a := ⟨_, rfl⟩
                  rw [ha65] at hO1_65 ⊢
                  generalize w55.alloc (.cells #[Value.int .u8 (i : Int)] 5) = w65 at hB65 hO2_65 hO1_65 ⊢
                  clear ha65
                  refine go_fork3 2 6 10 (by kernel_rfl) (goOp_wp 2 rfl rfl (fun K hK => ?_)) (goOp_wp 6 rfl rfl (fun K hK => ?_)) (goOp_wp 10 rfl rfl (fun K hK => ?_))
                  · go_simp
                    refine (hNum w65).mono ?_
                    rintro e w66 ⟨rfl, hb66⟩
                    refine hK _ _ True.intro ?_
                    clear hK K
                    have hB66 : Box (Below wr.heap.size wr w66) := ⟨hB65.out.trans (hb66.mono hB65.out.size)⟩
                    have hO2_66 := Box.mk (ownsRow_below hO2_65.out hb66)
                    have hO1_66 := Box.mk (ownsRow_below hO1_65.out hb66)
                    clear hb66 hB65 hO2_65 hO1_65
                    refine go_fork 6 10 (by kernel_rfl) (goOp_wp 6 rfl rfl (fun K hK => ?_)) (goOp_wp 10 rfl rfl (fun K hK => ?_))
                    · have hcv67 := own_text hO1_66.out
                      rw [show (⟨[UInt8.ofNat i].toArray⟩ : ByteArray) = by1 i from rfl] at hcv67
                      go_simp
                      refine hK _ _ True.intro ?_
                      clear hK K hcv67 hO1_66
                      refine go_forced 10 (by kernel_rfl) (goOp_wp 10 rfl rfl (fun K hK => ?_))
                      have hcv68 := own_text hO2_66.out
                      rw [show (⟨[UInt8.ofNat k].toArray⟩ : ByteArray) = by1 k from rfl] at hcv68
                      go_simp
                      refine hK _ _ True.intro ?_
                      clear hK K hcv68 hO2_66
                      refine go_forced 12 (by kernel_rfl) (goOp_wp 12 rfl rfl (fun K hK => ?_))
                      go_simp
                      refine hK _ _ True.intro ?_
                      clear hK K
                      have hF := hTg w66
                      have hBt : Box (Below wr.heap.size wr (w66.alloc (.cells #[.string (by2 n), .string (by1 i), .string (by1 k), .string z] 9))) := ⟨hB66.out.alloc hB66.out.size _⟩
                      clear hTg hB66 hNum
                      refine go_forced 13 (by kernel_rfl) (goOp_wp 13 rfl rfl (fun K hK => ?_))
                      go_simp
                      refine hF.mono ?_
                      rintro e we ⟨rfl, hbe⟩
                      refine hK _ _ True.intro ?_
                      clear hK K hF
                      have hBe : Box (Below wr.heap.size wr we) := ⟨hBt.out.trans (hbe.mono hBt.out.size)⟩
                      clear hBt hbe
                      refine go_calms [14, 15] 0 rfl (by kernel_rfl) (by kernel_rfl) (by kernel_rfl) True.intro ?_
                      simp [nth]
                      try simp only [Act.put]
                      repeat (go_big_quiet_step (first | exact fun _ => rfl | rfl))
                      refine wpQuiet_nil ?_
                      refine go_done (by kernel_rfl) ?_
                      go_simp
                      go_wp2_with fail
                      exact ⟨⟨k + 1, by omega, by omega, by rw [hy.out], by go_num, ⟨hP3.out.below hBe.out hP3.out.lt⟩, ⟨hR3.out.below hBe.out hR3.out.lt⟩, ⟨hB3.out.trans (hBe.out.mono hB3.out.size)⟩⟩, by simp [intOf]; omega⟩
                    · have hcv69 := own_text hO2_66.out
                      rw [show (⟨[UInt8.ofNat k].toArray⟩ : ByteArray) = by1 k from rfl] at hcv69
                      go_simp
                      refine hK _ _ True.intro ?_
                      clear hK K hcv69 hO2_66
                      refine go_forced 6 (by kernel_rfl) (goOp_wp 6 rfl rfl (fun K hK => ?_))
                      have hcv70 := own_text hO1_66.out
                      rw [show (⟨[UInt8.ofNat i].toArray⟩ : ByteArray) = by1 i from rfl] at hcv70
                      go_simp
                      refine hK _ _ True.intro ?_
                      clear hK K hcv70 hO1_66
                      refine go_forced 12 (by kernel_rfl) (goOp_wp 12 rfl rfl (fun K hK => ?_))
                      go_simp
                      refine hK _ _ True.intro ?_
                      clear hK K
                      have hF := hTg w66
                      have hBt : Box (Below wr.heap.size wr (w66.alloc (.cells #[.string (by2 n), .string (by1 i), .string (by1 k), .string z] 9))) := ⟨hB66.out.alloc hB66.out.size _⟩
                      clear hTg hB66 hNum
                      refine go_forced 13 (by kernel_rfl) (goOp_wp 13 rfl rfl (fun K hK => ?_))
                      go_simp
                      refine hF.mono ?_
                      rintro e we ⟨rfl, hbe⟩
                      refine hK _ _ True.intro ?_
                      clear hK K hF
                      have hBe : Box (Below wr.heap.size wr we) := ⟨hBt.out.trans (hbe.mono hBt.out.size)⟩
                      clear hBt hbe
                      refine go_calms [14, 15] 0 rfl (by kernel_rfl) (by kernel_rfl) (by kernel_rfl) True.intro ?_
                      simp [nth]
                      try simp only [Act.put]
                      repeat (go_big_quiet_step (first | exact fun _ => rfl | rfl))
                      refine wpQuiet_nil ?_
                      refine go_done (by kernel_rfl) ?_
                      go_simp
                      go_wp2_with fail
                      exact ⟨⟨k + 1, by omega, by omega, by rw [hy.out], by go_num, ⟨hP3.out.below hBe.out hP3.out.lt⟩, ⟨hR3.out.below hBe.out hR3.out.lt⟩, ⟨hB3.out.trans (hBe.out.mono hB3.out.size)⟩⟩, by simp [intOf]; omega⟩
                  · have hcv71 := own_text hO1_65.out
                    rw [show (⟨[UInt8.ofNat i].toArray⟩ : ByteArray) = by1 i from rfl] at hcv71
                    go_simp
                    refine hK _ _ True.intro ?_
                    clear hK K hcv71 hO1_65
                    refine go_fork 2 10 (by kernel_rfl) (goOp_wp 2 rfl rfl (fun K hK => ?_)) (goOp_wp 10 rfl rfl (fun K hK => ?_))
                    · go_simp
                      refine (hNum w65).mono ?_
                      rintro e w72 ⟨rfl, hb72⟩
                      refine hK _ _ True.intro ?_
                      clear hK K
                      have hB72 : Box (Below wr.heap.size wr w72) := ⟨hB65.out.trans (hb72.mono hB65.out.size)⟩
                      have hO2_72 := Box.mk (ownsRow_below hO2_65.out hb72)
                      clear hb72 hB65 hO2_65
                      refine go_forced 10 (by kernel_rfl) (goOp_wp 10 rfl rfl (fun K hK => ?_))
                      have hcv73 := own_text hO2_72.out
                      rw [show (⟨[UInt8.ofNat k].toArray⟩ : ByteArray) = by1 k from rfl] at hcv73
                      go_simp
                      refine hK _ _ True.intro ?_
                      clear hK K hcv73 hO2_72
                      refine go_forced 12 (by kernel_rfl) (goOp_wp 12 rfl rfl (fun K hK => ?_))
                      go_simp
                      refine hK _ _ True.intro ?_
                      clear hK K
                      have hF := hTg w72
                      have hBt : Box (Below wr.heap.size wr (w72.alloc (.cells #[.string (by2 n), .string (by1 i), .string (by1 k), .string z] 9))) := ⟨hB72.out.alloc hB72.out.size _⟩
                      clear hTg hB72 hNum
                      refine go_forced 13 (by kernel_rfl) (goOp_wp 13 rfl rfl (fun K hK => ?_))
                      go_simp
                      refine hF.mono ?_
                      rintro e we ⟨rfl, hbe⟩
                      refine hK _ _ True.intro ?_
                      clear hK K hF
                      have hBe : Box (Below wr.heap.size wr we) := ⟨hBt.out.trans (hbe.mono hBt.out.size)⟩
                      clear hBt hbe
                      refine go_calms [14, 15] 0 rfl (by kernel_rfl) (by kernel_rfl) (by kernel_rfl) True.intro ?_
                      simp [nth]
                      try simp only [Act.put]
                      repeat (go_big_quiet_step (first | exact fun _ => rfl | rfl))
                      refine wpQuiet_nil ?_
                      refine go_done (by kernel_rfl) ?_
                      go_simp
                      go_wp2_with fail
                      exact ⟨⟨k + 1, by omega, by omega, by rw [hy.out], by go_num, ⟨hP3.out.below hBe.out hP3.out.lt⟩, ⟨hR3.out.below hBe.out hR3.out.lt⟩, ⟨hB3.out.trans (hBe.out.mono hB3.out.size)⟩⟩, by simp [intOf]; omega⟩
                    · have hcv74 := own_text hO2_65.out
                      rw [show (⟨[UInt8.ofNat k].toArray⟩ : ByteArray) = by1 k from rfl] at hcv74
                      go_simp
                      refine hK _ _ True.intro ?_
                      clear hK K hcv74 hO2_65
                      refine go_forced 2 (by kernel_rfl) (goOp_wp 2 rfl rfl (fun K hK => ?_))
                      go_simp
                      refine (hNum w65).mono ?_
                      rintro e w75 ⟨rfl, hb75⟩
                      refine hK _ _ True.intro ?_
                      clear hK K
                      have hB75 : Box (Below wr.heap.size wr w75) := ⟨hB65.out.trans (hb75.mono hB65.out.size)⟩
                      clear hb75 hB65
                      refine go_forced 12 (by kernel_rfl) (goOp_wp 12 rfl rfl (fun K hK => ?_))
                      go_simp
                      refine hK _ _ True.intro ?_
                      clear hK K
                      have hF := hTg w75
                      have hBt : Box (Below wr.heap.size wr (w75.alloc (.cells #[.string (by2 n), .string (by1 i), .string (by1 k), .string z] 9))) := ⟨hB75.out.alloc hB75.out.size _⟩
                      clear hTg hB75 hNum
                      refine go_forced 13 (by kernel_rfl) (goOp_wp 13 rfl rfl (fun K hK => ?_))
                      go_simp
                      refine hF.mono ?_
                      rintro e we ⟨rfl, hbe⟩
                      refine hK _ _ True.intro ?_
                      clear hK K hF
                      have hBe : Box (Below wr.heap.size wr we) := ⟨hBt.out.trans (hbe.mono hBt.out.size)⟩
                      clear hBt hbe
                      refine go_calms [14, 15] 0 rfl (by kernel_rfl) (by kernel_rfl) (by kernel_rfl) True.intro ?_
                      simp [nth]
                      try simp only [Act.put]
                      repeat (go_big_quiet_step (first | exact fun _ => rfl | rfl))
                      refine wpQuiet_nil ?_
                      refine go_done (by kernel_rfl) ?_
                      go_simp
                      go_wp2_with fail
                      exact ⟨⟨k + 1, by omega, by omega, by rw [hy.out], by go_num, ⟨hP3.out.below hBe.out hP3.out.lt⟩, ⟨hR3.out.below hBe.out hR3.out.lt⟩, ⟨hB3.out.trans (hBe.out.mono hB3.out.size)⟩⟩, by simp [intOf]; omega⟩
                  · have hcv76 := own_text hO2_65.out
                    rw [show (⟨[UInt8.ofNat k].toArray⟩ : ByteArray) = by1 k from rfl] at hcv76
                    go_simp
                    refine hK _ _ True.intro ?_
                    clear hK K hcv76 hO2_65
                    refine go_fork 2 6 (by kernel_rfl) (goOp_wp 2 rfl rfl (fun K hK => ?_)) (goOp_wp 6 rfl rfl (fun K hK => ?_))
                    · go_simp
                      refine (hNum w65).mono ?_
                      rintro e w77 ⟨rfl, hb77⟩
                      refine hK _ _ True.intro ?_
                      clear hK K
                      have hB77 : Box (Below wr.heap.size wr w77) := ⟨hB65.out.trans (hb77.mono hB65.out.size)⟩
                      have hO1_77 := Box.mk (ownsRow_below hO1_65.out hb77)
                      clear hb77 hB65 hO1_65
                      refine go_forced 6 (by kernel_rfl) (goOp_wp 6 rfl rfl (fun K hK => ?_))
                      have hcv78 := own_text hO1_77.out
                      rw [show (⟨[UInt8.ofNat i].toArray⟩ : ByteArray) = by1 i from rfl] at hcv78
                      go_simp
                      refine hK _ _ True.intro ?_
                      clear hK K hcv78 hO1_77
                      refine go_forced 12 (by kernel_rfl) (goOp_wp 12 rfl rfl (fun K hK => ?_))
                      go_simp
                      refine hK _ _ True.intro ?_
                      clear hK K
                      have hF := hTg w77
                      have hBt : Box (Below wr.heap.size wr (w77.alloc (.cells #[.string (by2 n), .string (by1 i), .string (by1 k), .string z] 9))) := ⟨hB77.out.alloc hB77.out.size _⟩
                      clear hTg hB77 hNum
                      refine go_forced 13 (by kernel_rfl) (goOp_wp 13 rfl rfl (fun K hK => ?_))
                      go_simp
                      refine hF.mono ?_
                      rintro e we ⟨rfl, hbe⟩
                      refine hK _ _ True.intro ?_
                      clear hK K hF
                      have hBe : Box (Below wr.heap.size wr we) := ⟨hBt.out.trans (hbe.mono hBt.out.size)⟩
                      clear hBt hbe
                      refine go_calms [14, 15] 0 rfl (by kernel_rfl) (by kernel_rfl) (by kernel_rfl) True.intro ?_
                      simp [nth]
                      try simp only [Act.put]
                      repeat (go_big_quiet_step (first | exact fun _ => rfl | rfl))
                      refine wpQuiet_nil ?_
                      refine go_done (by kernel_rfl) ?_
                      go_simp
                      go_wp2_with fail
                      exact ⟨⟨k + 1, by omega, by omega, by rw [hy.out], by go_num, ⟨hP3.out.below hBe.out hP3.out.lt⟩, ⟨hR3.out.below hBe.out hR3.out.lt⟩, ⟨hB3.out.trans (hBe.out.mono hB3.out.size)⟩⟩, by simp [intOf]; omega⟩
                    · have hcv79 := own_text hO1_65.out
                      rw [show (⟨[UInt8.ofNat i].toArray⟩ : ByteArray) = by1 i from rfl] at hcv79
                      go_simp
                      refine hK _ _ True.intro ?_
                      clear hK K hcv79 hO1_65
                      refine go_forced 2 (by kernel_rfl) (goOp_wp 2 rfl rfl (fun K hK => ?_))
                      go_simp
                      refine (hNum w65).mono ?_
                      rintro e w80 ⟨rfl, hb80⟩
                      refine hK _ _ True.intro ?_
                      clear hK K
                      have hB80 : Box (Below wr.heap.size wr w80) := ⟨hB65.out.trans (hb80.mono hB65.out.size)⟩
                      clear hb80 hB65
                      refine go_forced 12 (by kernel_rfl) (goOp_wp 12 rfl rfl (fun K hK => ?_))
                      go_simp
                      refine hK _ _ True.intro ?_
                      clear hK K
                      have hF := hTg w80
                      have hBt : Box (Below wr.heap.size wr (w80.alloc (.cells #[.string (by2 n), .string (by1 i), .string (by1 k), .string z] 9))) := ⟨hB80.out.alloc hB80.out.size _⟩
                      clear hTg hB80 hNum
                      refine go_forced 13 (by kernel_rfl) (goOp_wp 13 rfl rfl (fun K hK => ?_))
                      go_simp
                      refine hF.mono ?_
                      rintro e we ⟨rfl, hbe⟩
                      refine hK _ _ True.intro ?_
                      clear hK K hF
                      have hBe : Box (Below wr.heap.size wr we) := ⟨hBt.out.trans (hbe.mono hBt.out.size)⟩
                      clear hBt hbe
                      refine go_calms [14, 15] 0 rfl (by kernel_rfl) (by kernel_rfl) (by kernel_rfl) True.intro ?_
                      simp [nth]
                      try simp only [Act.put]
                      repeat (go_big_quiet_step (first | exact fun _ => rfl | rfl))
                      refine wpQuiet_nil ?_
                      refine go_done (by kernel_rfl) ?_
                      go_simp
                      go_wp2_with fail
                      exact ⟨⟨k + 1, by omega, by omega, by rw [hy.out], by go_num, ⟨hP3.out.below hBe.out hP3.out.lt⟩, ⟨hR3.out.below hBe.out hR3.out.lt⟩, ⟨hB3.out.trans (hBe.out.mono hB3.out.size)⟩⟩, by simp [intOf]; omega⟩
                · have hcv81 := own_text hO2_55.out
                  rw [show (⟨[UInt8.ofNat k].toArray⟩ : ByteArray) = by1 k from rfl] at hcv81
                  go_simp
                  refine hK _ _ True.intro ?_
                  clear hK K hcv81 hO2_55
                  refine go_fork 2 5 (by kernel_rfl) (goOp_wp 2 rfl rfl (fun K hK => ?_)) (goOp_wp 5 rfl rfl (fun K hK => ?_))
                  · go_simp
                    refine (hNum w55).mono ?_
                    rintro e w82 ⟨rfl, hb82⟩
                    refine hK _ _ True.intro ?_
                    clear hK K
                    have hB82 : Box (Below wr.heap.size wr w82) := ⟨hB55.out.trans (hb82.mono hB55.out.size)⟩
                    clear hb82 hB55
                    refine go_forced 5 (by kernel_rfl) (goOp_wp 5 rfl rfl (fun K hK => ?_))
                    go_simp
                    refine hK _ _ True.intro ?_
                    clear hK K
                    have hB83 : Box (Below wr.heap.size wr (w82.alloc (.cells #[Value.int .u8 (i : Int)] 5))) := ⟨hB82.out.alloc hB82.out.size _⟩
                    have hO1_83 := Box.mk (own_oneN w82 i hi256)
                    clear hB82
                    obtain ⟨a83, ha83⟩ : ∃ a, w82.heap.size = a := ⟨_, rfl⟩
                    rw [ha83] at hO1_83 ⊢
                    generalize w82.alloc (.cells #[Value.int .u8 (i : Int)] 5) = w83 at hB83 hO1_83 ⊢
                    clear ha83
                    refine go_forced 6 (by kernel_rfl) (goOp_wp 6 rfl rfl (fun K hK => ?_))
                    have hcv84 := own_text hO1_83.out
                    rw [show (⟨[UInt8.ofNat i].toArray⟩ : ByteArray) = by1 i from rfl] at hcv84
                    go_simp
                    refine hK _ _ True.intro ?_
                    clear hK K hcv84 hO1_83
                    refine go_forced 12 (by kernel_rfl) (goOp_wp 12 rfl rfl (fun K hK => ?_))
                    go_simp
                    refine hK _ _ True.intro ?_
                    clear hK K
                    have hF := hTg w83
                    have hBt : Box (Below wr.heap.size wr (w83.alloc (.cells #[.string (by2 n), .string (by1 i), .string (by1 k), .string z] 9))) := ⟨hB83.out.alloc hB83.out.size _⟩
                    clear hTg hB83 hNum
                    refine go_forced 13 (by kernel_rfl) (goOp_wp 13 rfl rfl (fun K hK => ?_))
                    go_simp
                    refine hF.mono ?_
                    rintro e we ⟨rfl, hbe⟩
                    refine hK _ _ True.intro ?_
                    clear hK K hF
                    have hBe : Box (Below wr.heap.size wr we) := ⟨hBt.out.trans (hbe.mono hBt.out.size)⟩
                    clear hBt hbe
                    refine go_calms [14, 15] 0 rfl (by kernel_rfl) (by kernel_rfl) (by kernel_rfl) True.intro ?_
                    simp [nth]
                    try simp only [Act.put]
                    repeat (go_big_quiet_step (first | exact fun _ => rfl | rfl))
                    refine wpQuiet_nil ?_
                    refine go_done (by kernel_rfl) ?_
                    go_simp
                    go_wp2_with fail
                    exact ⟨⟨k + 1, by omega, by omega, by rw [hy.out], by go_num, ⟨hP3.out.below hBe.out hP3.out.lt⟩, ⟨hR3.out.below hBe.out hR3.out.lt⟩, ⟨hB3.out.trans (hBe.out.mono hB3.out.size)⟩⟩, by simp [intOf]; omega⟩
                  · go_simp
                    refine hK _ _ True.intro ?_
                    clear hK K
                    have hB85 : Box (Below wr.heap.size wr (w55.alloc (.cells #[Value.int .u8 (i : Int)] 5))) := ⟨hB55.out.alloc hB55.out.size _⟩
                    have hO1_85 := Box.mk (own_oneN w55 i hi256)
                    clear hB55
                    obtain ⟨a85, ha85⟩ : ∃ a, w55.heap.size = a := ⟨_, rfl⟩
                    rw [ha85] at hO1_85 ⊢
                    generalize w55.alloc (.cells #[Value.int .u8 (i : Int)] 5) = w85 at hB85 hO1_85 ⊢
                    clear ha85
                    refine go_fork 2 6 (by kernel_rfl) (goOp_wp 2 rfl rfl (fun K hK => ?_)) (goOp_wp 6 rfl rfl (fun K hK => ?_))
                    · go_simp
                      refine (hNum w85).mono ?_
                      rintro e w86 ⟨rfl, hb86⟩
                      refine hK _ _ True.intro ?_
                      clear hK K
                      have hB86 : Box (Below wr.heap.size wr w86) := ⟨hB85.out.trans (hb86.mono hB85.out.size)⟩
                      have hO1_86 := Box.mk (ownsRow_below hO1_85.out hb86)
                      clear hb86 hB85 hO1_85
                      refine go_forced 6 (by kernel_rfl) (goOp_wp 6 rfl rfl (fun K hK => ?_))
                      have hcv87 := own_text hO1_86.out
                      rw [show (⟨[UInt8.ofNat i].toArray⟩ : ByteArray) = by1 i from rfl] at hcv87
                      go_simp
                      refine hK _ _ True.intro ?_
                      clear hK K hcv87 hO1_86
                      refine go_forced 12 (by kernel_rfl) (goOp_wp 12 rfl rfl (fun K hK => ?_))
                      go_simp
                      refine hK _ _ True.intro ?_
                      clear hK K
                      have hF := hTg w86
                      have hBt : Box (Below wr.heap.size wr (w86.alloc (.cells #[.string (by2 n), .string (by1 i), .string (by1 k), .string z] 9))) := ⟨hB86.out.alloc hB86.out.size _⟩
                      clear hTg hB86 hNum
                      refine go_forced 13 (by kernel_rfl) (goOp_wp 13 rfl rfl (fun K hK => ?_))
                      go_simp
                      refine hF.mono ?_
                      rintro e we ⟨rfl, hbe⟩
                      refine hK _ _ True.intro ?_
                      clear hK K hF
                      have hBe : Box (Below wr.heap.size wr we) := ⟨hBt.out.trans (hbe.mono hBt.out.size)⟩
                      clear hBt hbe
                      refine go_calms [14, 15] 0 rfl (by kernel_rfl) (by kernel_rfl) (by kernel_rfl) True.intro ?_
                      simp [nth]
                      try simp only [Act.put]
                      repeat (go_big_quiet_step (first | exact fun _ => rfl | rfl))
                      refine wpQuiet_nil ?_
                      refine go_done (by kernel_rfl) ?_
                      go_simp
                      go_wp2_with fail
                      exact ⟨⟨k + 1, by omega, by omega, by rw [hy.out], by go_num, ⟨hP3.out.below hBe.out hP3.out.lt⟩, ⟨hR3.out.below hBe.out hR3.out.lt⟩, ⟨hB3.out.trans (hBe.out.mono hB3.out.size)⟩⟩, by simp [intOf]; omega⟩
                    · have hcv88 := own_text hO1_85.out
                      rw [show (⟨[UInt8.ofNat i].toArray⟩ : ByteArray) = by1 i from rfl] at hcv88
                      go_simp
                      refine hK _ _ True.intro ?_
                      clear hK K hcv88 hO1_85
                      refine go_forced 2 (by kernel_rfl) (goOp_wp 2 rfl rfl (fun K hK => ?_))
                      go_simp
                      refine (hNum w85).mono ?_
                      rintro e w89 ⟨rfl, hb89⟩
                      refine hK _ _ True.intro ?_
                      clear hK K
                      have hB89 : Box (Below wr.heap.size wr w89) := ⟨hB85.out.trans (hb89.mono hB85.out.size)⟩
                      clear hb89 hB85
                      refine go_forced 12 (by kernel_rfl) (goOp_wp 12 rfl rfl (fun K hK => ?_))
                      go_simp
                      refine hK _ _ True.intro ?_
                      clear hK K
                      have hF := hTg w89
                      have hBt : Box (Below wr.heap.size wr (w89.alloc (.cells #[.string (by2 n), .string (by1 i), .string (by1 k), .string z] 9))) := ⟨hB89.out.alloc hB89.out.size _⟩
                      clear hTg hB89 hNum
                      refine go_forced 13 (by kernel_rfl) (goOp_wp 13 rfl rfl (fun K hK => ?_))
                      go_simp
                      refine hF.mono ?_
                      rintro e we ⟨rfl, hbe⟩
                      refine hK _ _ True.intro ?_
                      clear hK K hF
                      have hBe : Box (Below wr.heap.size wr we) := ⟨hBt.out.trans (hbe.mono hBt.out.size)⟩
                      clear hBt hbe
                      refine go_calms [14, 15] 0 rfl (by kernel_rfl) (by kernel_rfl) (by kernel_rfl) True.intro ?_
                      simp [nth]
                      try simp only [Act.put]
                      repeat (go_big_quiet_step (first | exact fun _ => rfl | rfl))
                      refine wpQuiet_nil ?_
                      refine go_done (by kernel_rfl) ?_
                      go_simp
                      go_wp2_with fail
                      exact ⟨⟨k + 1, by omega, by omega, by rw [hy.out], by go_num, ⟨hP3.out.below hBe.out hP3.out.lt⟩, ⟨hR3.out.below hBe.out hR3.out.lt⟩, ⟨hB3.out.trans (hBe.out.mono hB3.out.size)⟩⟩, by simp [intOf]; omega⟩
            · obtain rfl : k = to_ := by omega
              go_wp2_with fail
              have hm : 18 - (intOf (Value.int IntKind.i64 (↑i + 1))).toNat < 18 - (intOf (Value.int IntKind.i64 ↑i)).toNat := by simp [intOf]; omega
              exact ⟨⟨i + 1, by omega, by go_num, hP3, hR3, hB3⟩, hm⟩
    · obtain rfl : i = 18 := by omega
      go_wp2_with fail
      go_ret
      exact ⟨rfl, hB.out⟩
end Go.Proofs.YtkemgccfdnbmpaaDoor
