/- Walks of the document's Public, Sign, Recover. -/
import Derived.Test.YtdjppgmaokcgiaaGreatDoorOtS
import Derived.Test.YtdjppgmaokcgiaaGreatDoorOtV
import Derived.Test.YtdjppgmaokcgiaaGreatDoorOtF
namespace Go.Proofs.YtdjppgmaokcgiaaGreatDoor
open Go Go.RowKit

theorem tag288 (q : ByteArray) (h : q.size = 288) : (tagL 35 [q]).length ≤ 140737488354000 := by
  simp only [tagL, tagP, List.flatMap_cons, List.flatMap_nil, List.length_cons, List.length_append, data_len, be4_length, List.length_nil, h]
  omega

set_option maxHeartbeats 800000 in
set_option maxRecDepth 100000 in
theorem rpublic_no (s : ByteArray) (n : Int) (w : World) (hn : n < 0 ∨ 65535 < n) :
    Calls Tryz.prog 19 #[.string s, .int .i64 n] w fun e w' => e = .returned (.tuple #[.string ⟨#[]⟩, .int .i64 1]) ∧ Below w.heap.size w w' := by
  have hB : Box (Below w.heap.size w w) := ⟨Below.refl _ _⟩
  rcases hn with hn | hn
  · go_enter Tryz.func19, Tryz.ntmps19
    go_wp2_with fail
    go_returns
    exact ⟨rfl, hB.out⟩
  · have hn0 : ¬ n < 0 := by omega
    go_enter Tryz.func19, Tryz.ntmps19
    go_wp2_with fail
    go_returns
    exact ⟨rfl, hB.out⟩
set_option maxHeartbeats 1600000 in
set_option maxRecDepth 100000 in
theorem rpublic_ok (s : ByteArray) (n : Nat) (w : World) (hn : n < 65536) (hs : s.size ≤ 140737488351232) :
    Calls Tryz.prog 19 #[.string s, .int .i64 (n : Int)] w fun e w' => e = .returned (.tuple #[.string (pubT s n), .int .i64 0]) ∧ Below w.heap.size w w' := by
  have hB0 : Box (Below w.heap.size w w) := ⟨Below.refl _ _⟩
  have hS := fun i w1 (hi : i < 256) => rsec_any s n i w1 hs hn hi
  have hL := fun i w1 (hi : i < 256) => rlinks_any (secV s n i) n i 0 15 w1 (secV_size s n i) hn hi (by omega)
  have hn0 : ¬ (n : Int) < 0 := by omega
  have hn1 : ¬ 65535 < (n : Int) := by omega
  replace hS := Box.mk hS
  replace hL := Box.mk hL
  go_enter Tryz.func19, Tryz.ntmps19
  go_wp2_with fail
  go_loopw [6, 7] (fun v q wr => ∃ k : Nat, k ≤ 18 ∧ v = .string (accT (endV s n) k) ∧ q = .int .i64 (k : Int) ∧ Box (Below w.heap.size w wr)) (fun _ q _ => 18 - (intOf q).toNat)
  case atStart => exact ⟨0, by omega, rfl, rfl, hB0⟩
  case round =>
    clear hB0
    obtain ⟨k, hk, rfl, rfl, hB⟩ := hrel
    by_cases hlt : k < 18
    · have hF := hS.out k wr (by omega)
      have hG := fun w1 => hL.out k w1 (by omega)
      have hnext := accT_succ (endV s n) k
      have hsz := accT_size (endV s n) (endV_size s n) k
      have hez := endV_size s n k
      obtain ⟨x, hx⟩ : ∃ x, secV s n k = x := ⟨_, rfl⟩
      rw [show linksV n k 0 15 (secV s n k) = endV s n k from rfl] at hG
      obtain ⟨y, hy⟩ : ∃ y, endV s n k = y := ⟨_, rfl⟩
      obtain ⟨u, hu⟩ : ∃ u, accT (endV s n) k = u := ⟨_, rfl⟩
      obtain ⟨v, hv⟩ : ∃ v, accT (endV s n) (k + 1) = v := ⟨_, rfl⟩
      rw [hx] at hF hG
      rw [hy] at hG hnext hez
      rw [hu, hv] at hnext
      rw [hu] at hsz
      rw [hu]
      replace hx := Box.mk hx
      replace hy := Box.mk hy
      replace hu := Box.mk hu
      replace hv := Box.mk hv
      go_wp2_with fail
      refine hF.mono ?_
      clear hF
      rintro e w1 ⟨rfl, hb1⟩
      have hB1 : Box (Below w.heap.size w w1) := ⟨hB.out.trans (hb1.mono hB.out.size)⟩
      clear hb1 hB
      go_wp2_with fail
      refine (hG w1).mono ?_
      clear hG
      rintro e w2 ⟨rfl, hb2⟩
      have hB2 : Box (Below w.heap.size w w2) := ⟨hB1.out.trans (hb2.mono hB1.out.size)⟩
      clear hb2 hB1
      go_wp2_with fail
      have hm : 18 - (intOf (Value.int IntKind.i64 (↑k + 1))).toNat < 18 - (intOf (Value.int IntKind.i64 ↑k)).toNat := by simp [intOf]; omega
      exact ⟨⟨k + 1, by omega, by rw [hv.out], by go_num, hB2⟩, hm⟩
    · obtain rfl : k = 18 := by omega
      have hsz := accT_size (endV s n) (endV_size s n) 18
      obtain ⟨u, hu⟩ : ∃ u, accT (endV s n) 18 = u := ⟨_, rfl⟩
      rw [hu] at hsz
      have hF := rtag_parts 35 (.slice (some ⟨wr.heap.size, 0, none⟩) 1 1) [u] (wr.alloc (.cells #[.string u] 9)) (parts_new wr [u] 9) (tag288 u hsz) (by simp)
      rw [show hashOf (tagL 35 [u]) = pubT s n by rw [← hu]; rfl] at hF
      have hB1 : Box (Below w.heap.size w (wr.alloc (.cells #[.string u] 9))) := ⟨hB.out.alloc hB.out.size _⟩
      rw [hu]
      replace hu := Box.mk hu
      clear hS hL hB
      go_wp2_with fail
      refine hF.mono ?_
      clear hF
      rintro e w2 ⟨rfl, hb2⟩
      have hB2 : Box (Below w.heap.size w w2) := ⟨hB1.out.trans (hb2.mono hB1.out.size)⟩
      clear hb2 hB1
      go_wp2_with fail
      go_returns
      exact ⟨rfl, hB2.out⟩

set_option maxHeartbeats 800000 in
set_option maxRecDepth 100000 in
theorem rsign_no (s t : ByteArray) (n : Int) (w : World) (hn : n < 0 ∨ 65535 < n) :
    Calls Tryz.prog 22 #[.string s, .int .i64 n, .string t] w fun e w' => e = .returned (.tuple #[.string ⟨#[]⟩, .int .i64 1]) ∧ Below w.heap.size w w' := by
  have hB : Box (Below w.heap.size w w) := ⟨Below.refl _ _⟩
  rcases hn with hn | hn
  · go_enter Tryz.func22, Tryz.ntmps22
    go_wp2_with fail
    go_returns
    exact ⟨rfl, hB.out⟩
  · have hn0 : ¬ n < 0 := by omega
    go_enter Tryz.func22, Tryz.ntmps22
    go_wp2_with fail
    go_returns
    exact ⟨rfl, hB.out⟩
set_option maxHeartbeats 1600000 in
set_option maxRecDepth 100000 in
theorem rsign_ok (s t : ByteArray) (n : Nat) (w : World) (hn : n < 65536) (hs : s.size ≤ 140737488351232) (ht : t.size ≤ 140737488351232) :
    Calls Tryz.prog 22 #[.string s, .int .i64 (n : Int), .string t] w fun e w' => e = .returned (.tuple #[.string (sigT s n t), .int .i64 0]) ∧ Below w.heap.size w w' := by
  have hD := rdigits_any t w ht
  have hS := fun i w1 (hi : i < 256) => rsec_any s n i w1 hs hn hi
  have hL := fun i w1 (hi : i < 256) => rlinks_any (secV s n i) n i 0 (dig (headL t) i) w1 (secV_size s n i) hn hi (by have := dig_le (headL t) i; omega)
  have hn0 : ¬ (n : Int) < 0 := by omega
  have hn1 : ¬ 65535 < (n : Int) := by omega
  have hV := fun w => digits_var w t
  have hdi := dig_info t
  have hds := dig_size t
  have hdc : ∀ i, i < 18 → (dcell (digs (headL t)))[i]? = some (.int .i64 (dig (headL t) i : Int)) := fun i hi => dcell_get _ (digs_length _) i hi
  obtain ⟨dg, hdd⟩ : ∃ dg, digs (headL t) = dg := ⟨_, rfl⟩
  rw [hdd] at hD hV hdi hds hdc
  replace hdd := Box.mk hdd
  replace hV := Box.mk hV
  replace hS := Box.mk hS
  replace hL := Box.mk hL
  replace hdc := Box.mk hdc
  go_enter Tryz.func22, Tryz.ntmps22
  go_wp2_with fail
  refine hD.mono ?_
  clear hD
  rintro e w2 ⟨rfl, hb2⟩
  obtain ⟨q1, q2⟩ := hV.out w2
  have hZ : Box (Blk (w2.alloc (.cells zeros18 78)) w2.heap.size (dcell []) 78) := ⟨zeros18_blk w2⟩
  have hb3 : Below w.heap.size w ((w2.alloc (.cells zeros18 78)).setRow w2.heap.size (dcell dg).toArray) := hb2.trans (q1.mono hb2.size)
  have hB3 : Box (Below w.heap.size w ((w2.alloc (.cells zeros18 78)).setRow w2.heap.size (dcell dg).toArray)) := ⟨hb3⟩
  have hQ3 := Box.mk q2
  obtain ⟨bd, hbd⟩ : ∃ bd, w2.heap.size = bd := ⟨_, rfl⟩
  rw [hbd] at hZ hB3 hQ3
  have hbw : Box (w.heap.size ≤ bd) := ⟨by have := hb2.size; omega⟩
  clear hV q1 q2 hb2 hb3
  go_wp2_with (refine wpList_store_row rfl 78 (.tmp 8) (.tmp 18) rfl bd (dcell dg).toArray rfl rfl 78 zeros18 hZ.out hdi hds (dcell_one _) ?_)
  replace hbd := Box.mk hbd
  clear hZ
  go_loopw [9, 10] (fun v q wr => ∃ k : Nat, k ≤ 18 ∧ v = .string (accT (sigV s n t) k) ∧ q = .int .i64 (k : Int) ∧ Box (Blk wr bd (dcell dg) 78) ∧ Box (Below w.heap.size w wr)) (fun _ q _ => 18 - (intOf q).toNat)
  case atStart => exact ⟨0, by omega, rfl, rfl, hQ3, hB3⟩
  case round =>
    clear hQ3 hB3
    obtain ⟨k, hk, rfl, rfl, hQ, hB⟩ := hrel
    by_cases hlt : k < 18
    · have hF := hS.out k wr.drew (by omega)
      have hG := fun w1 => hL.out k w1 (by omega)
      have hnext := accT_succ (sigV s n t) k
      have hsz := accT_size (sigV s n t) (sigV_size s n t) k
      have hez := sigV_size s n t k
      have c3 := hQ.out.cell k
      rw [hdc.out k hlt] at c3
      have hdl := dig_le (headL t) k
      obtain ⟨x, hx⟩ : ∃ x, secV s n k = x := ⟨_, rfl⟩
      rw [show linksV n k 0 (dig (headL t) k) (secV s n k) = sigV s n t k from rfl, Nat.zero_add] at hG
      obtain ⟨y, hy⟩ : ∃ y, sigV s n t k = y := ⟨_, rfl⟩
      obtain ⟨u, hu⟩ : ∃ u, accT (sigV s n t) k = u := ⟨_, rfl⟩
      obtain ⟨v, hv⟩ : ∃ v, accT (sigV s n t) (k + 1) = v := ⟨_, rfl⟩
      obtain ⟨d, hd⟩ : ∃ d, dig (headL t) k = d := ⟨_, rfl⟩
      rw [hx] at hF hG
      rw [hy] at hG hnext hez
      rw [hd] at hG c3 hdl
      rw [hu, hv] at hnext
      rw [hu] at hsz
      rw [hu]
      replace hx := Box.mk hx
      replace hy := Box.mk hy
      replace hu := Box.mk hu
      replace hv := Box.mk hv
      replace hd := Box.mk hd
      have hl3 := hQ.out.lt
      have d3 : wr.drew.cell? ⟨bd, k, none⟩ = some (.int .i64 (d : Int)) := c3
      go_wp2_with fail
      refine region_go (C := fun w' => w'.cell? ⟨bd, k, none⟩ = some (.int .i64 (d : Int))) rfl ?_
      refine go_calms [0, 1, 2, 3, 4, 5, 6, 7, 8] 4 rfl (by kernel_rfl) (by kernel_rfl) (by kernel_rfl) d3 ?_
      simp [nth]
      try simp only [Act.put]
      repeat (go_big_quiet_step (first | exact fun _ => rfl | rfl))
      refine quiet_any rfl (.int .i64 (d : Int)) (fun w' hw' => by go_simp) ?_
      simp only [Act.put, List.setIfInBounds_toArray, List.set_cons_succ, List.set_cons_zero]
      repeat (go_big_quiet_step (first | exact fun _ => rfl | rfl))
      refine wpQuiet_nil ?_
      have hBd : Box (Below w.heap.size w wr.drew) := ⟨hB.out.trans (Drawn.below ⟨1, rfl⟩)⟩
      have hQd : Box (Blk wr.drew bd (dcell dg) 78) := ⟨hQ.out.drewN 1⟩
      refine go_forced 9 (by kernel_rfl) (goOp_wp 9 rfl rfl (fun K hK => ?_))
      go_simp
      refine hF.mono ?_
      rintro e w1 ⟨rfl, hb1⟩
      have hB1 : Box (Below w.heap.size w w1) := ⟨hBd.out.trans (hb1.mono hBd.out.size)⟩
      have hQ1 : Box (Blk w1 bd (dcell dg) 78) := ⟨hQd.out.below hb1 hQd.out.lt⟩
      have d1 : w1.cell? ⟨bd, k, none⟩ = some (.int .i64 (d : Int)) := (hb1.cell (p := ⟨bd, k, none⟩) hQd.out.lt).trans d3
      refine hK _ _ d1 ?_
      clear hK K hF
      have hH := hG w1
      clear hG
      refine go_forced 10 (by kernel_rfl) (goOp_wp 10 rfl rfl (fun K hK => ?_))
      go_simp
      refine hH.mono ?_
      rintro e w2 ⟨rfl, hb2⟩
      have hB2 : Box (Below w.heap.size w w2) := ⟨hB1.out.trans (hb2.mono hB1.out.size)⟩
      have hQ2 : Box (Blk w2 bd (dcell dg) 78) := ⟨hQ1.out.below hb2 hQ1.out.lt⟩
      have d2 : w2.cell? ⟨bd, k, none⟩ = some (.int .i64 (d : Int)) := (hb2.cell (p := ⟨bd, k, none⟩) hQ1.out.lt).trans d1
      refine hK _ _ d2 ?_
      clear hK K hH hb1 hb2 hB hBd hB1 hQd hQ1 c3 d3 d1
      refine go_calms [11, 12] 0 rfl (by kernel_rfl) (by kernel_rfl) (by kernel_rfl) d2 ?_
      simp [nth]
      try simp only [Act.put]
      repeat (go_big_quiet_step (first | exact fun _ => rfl | rfl))
      refine wpQuiet_nil ?_
      refine go_done (by kernel_rfl) ?_
      go_simp
      go_wp2_with fail
      have hm : 18 - (intOf (Value.int IntKind.i64 (↑k + 1))).toNat < 18 - (intOf (Value.int IntKind.i64 ↑k)).toNat := by simp [intOf]; omega
      exact ⟨⟨k + 1, by omega, by rw [hv.out], by go_num, hQ2, hB2⟩, hm⟩
    · obtain rfl : k = 18 := by omega
      go_wp2_with fail
      go_returns
      exact ⟨rfl, hB.out⟩

set_option maxHeartbeats 800000 in
set_option maxRecDepth 100000 in
theorem rrecover_no (t q : ByteArray) (n : Int) (w : World) (hn : n < 0 ∨ 65535 < n) :
    Calls Tryz.prog 94 #[.int .i64 n, .string t, .string q] w fun e w' => e = .returned (.tuple #[.string ⟨#[]⟩, .int .i64 1]) ∧ Below w.heap.size w w' := by
  have hB : Box (Below w.heap.size w w) := ⟨Below.refl _ _⟩
  rcases hn with hn | hn
  · go_enter Tryz.func94, Tryz.ntmps94
    go_wp2_with fail
    go_returns
    exact ⟨rfl, hB.out⟩
  · have hn0 : ¬ n < 0 := by omega
    go_enter Tryz.func94, Tryz.ntmps94
    go_wp2_with fail
    go_returns
    exact ⟨rfl, hB.out⟩
set_option maxHeartbeats 800000 in
set_option maxRecDepth 100000 in
theorem rrecover_form (t q : ByteArray) (n : Nat) (w : World) (hn : n < 65536) (hq : q.size ≠ 288) :
    Calls Tryz.prog 94 #[.int .i64 (n : Int), .string t, .string q] w fun e w' => e = .returned (.tuple #[.string ⟨#[]⟩, .int .i64 3]) ∧ Below w.heap.size w w' := by
  have hB : Box (Below w.heap.size w w) := ⟨Below.refl _ _⟩
  have hn0 : ¬ (n : Int) < 0 := by omega
  have hn1 : ¬ 65535 < (n : Int) := by omega
  have hq2 : ((q.size : Int) == 288) = false := by simp; omega
  have hq3 : ((q.size : Int) != 288) = true := by simp; omega
  have hq4 : ¬ ((q.size : Int) = 288) := by omega
  go_enter Tryz.func94, Tryz.ntmps94
  go_wp2_with fail
  go_returns
  exact ⟨rfl, hB.out⟩
set_option maxHeartbeats 1600000 in
set_option maxRecDepth 100000 in
theorem rrecover_ok (t q : ByteArray) (n : Nat) (w : World) (hn : n < 65536) (hq : q.size = 288) (ht : t.size ≤ 140737488351232) :
    Calls Tryz.prog 94 #[.int .i64 (n : Int), .string t, .string q] w fun e w' => e = .returned (.tuple #[.string (recT n t q), .int .i64 0]) ∧ Below w.heap.size w w' := by
  have hD := rdigits_any t w ht
  have hL := fun i w1 (hi : i < 18) => rlinks_any (q.extract (16 * i) (16 * i + 16)) n i (dig (headL t) i) (15 - dig (headL t) i) w1 (cut_size q i hq hi) hn (by omega) (by have := dig_le (headL t) i; omega)
  have hrz : ∀ i, i < 18 → (recV n t q i).size = 16 := fun i hi => linksV_size _ _ _ _ (cut_size q i hq hi) _
  have hac : ∀ k, k ≤ 18 → (accT (recV n t q) k).size = 16 * k := fun k hk => by
    rw [show accT (recV n t q) k = accT (fun i => if i < 18 then recV n t q i else secV t n i) k from accT_congr k fun i hi => (if_pos (by omega)).symm]
    refine accT_size _ (fun i => ?_) k
    show (if i < 18 then recV n t q i else secV t n i).size = 16
    split
    · exact hrz i (by assumption)
    · exact secV_size _ _ _
  have hn0 : ¬ (n : Int) < 0 := by omega
  have hn1 : ¬ 65535 < (n : Int) := by omega
  have hV := fun w => digits_var w t
  have hdi := dig_info t
  have hds := dig_size t
  have hdc : ∀ i, i < 18 → (dcell (digs (headL t)))[i]? = some (.int .i64 (dig (headL t) i : Int)) := fun i hi => dcell_get _ (digs_length _) i hi
  obtain ⟨dg, hdd⟩ : ∃ dg, digs (headL t) = dg := ⟨_, rfl⟩
  rw [hdd] at hD hV hdi hds hdc
  replace hdd := Box.mk hdd
  replace hV := Box.mk hV
  replace hL := Box.mk hL
  replace hdc := Box.mk hdc
  replace hrz := Box.mk hrz
  replace hac := Box.mk hac
  go_enter Tryz.func94, Tryz.ntmps94
  go_wp2_with fail
  refine hD.mono ?_
  clear hD
  rintro e w2 ⟨rfl, hb2⟩
  obtain ⟨q1, q2⟩ := hV.out w2
  have hZ : Box (Blk (w2.alloc (.cells zeros18 78)) w2.heap.size (dcell []) 78) := ⟨zeros18_blk w2⟩
  have hb3 : Below w.heap.size w ((w2.alloc (.cells zeros18 78)).setRow w2.heap.size (dcell dg).toArray) := hb2.trans (q1.mono hb2.size)
  have hB3 : Box (Below w.heap.size w ((w2.alloc (.cells zeros18 78)).setRow w2.heap.size (dcell dg).toArray)) := ⟨hb3⟩
  have hQ3 := Box.mk q2
  obtain ⟨bd, hbd⟩ : ∃ bd, w2.heap.size = bd := ⟨_, rfl⟩
  rw [hbd] at hZ hB3 hQ3
  clear hV q1 q2 hb2 hb3
  go_wp2_with (refine wpList_store_row rfl 78 (.tmp 8) (.tmp 21) rfl bd (dcell dg).toArray rfl rfl 78 zeros18 hZ.out hdi hds (dcell_one _) ?_)
  replace hbd := Box.mk hbd
  clear hZ
  go_loopw [9, 10] (fun v q' wr => ∃ k : Nat, k ≤ 18 ∧ v = .string (accT (recV n t q) k) ∧ q' = .int .i64 (k : Int) ∧ Box (Blk wr bd (dcell dg) 78) ∧ Box (Below w.heap.size w wr)) (fun _ q' _ => 18 - (intOf q').toNat)
  case atStart => exact ⟨0, by omega, rfl, rfl, hQ3, hB3⟩
  case round =>
    clear hQ3 hB3
    obtain ⟨k, hk, rfl, rfl, hQ, hB⟩ := hrel
    by_cases hlt : k < 18
    · have hG := hL.out k wr.drew hlt
      have hnext := accT_succ (recV n t q) k
      have hsz := hac.out k hk
      have hez := hrz.out k hlt
      have c3 := hQ.out.cell k
      rw [hdc.out k hlt] at c3
      have hdl := dig_le (headL t) k
      have hcz := cut_size q k hq hlt
      rw [show linksV n k (dig (headL t) k) (15 - dig (headL t) k) (q.extract (16 * k) (16 * k + 16)) = recV n t q k from rfl, show dig (headL t) k + (15 - dig (headL t) k) = 15 by omega] at hG
      obtain ⟨x, hx⟩ : ∃ x, q.extract (16 * k) (16 * k + 16) = x := ⟨_, rfl⟩
      obtain ⟨y, hy⟩ : ∃ y, recV n t q k = y := ⟨_, rfl⟩
      obtain ⟨u, hu⟩ : ∃ u, accT (recV n t q) k = u := ⟨_, rfl⟩
      obtain ⟨v, hv⟩ : ∃ v, accT (recV n t q) (k + 1) = v := ⟨_, rfl⟩
      obtain ⟨d, hd⟩ : ∃ d, dig (headL t) k = d := ⟨_, rfl⟩
      rw [hx] at hG hcz
      rw [hy] at hG hnext hez
      rw [hd] at hG c3 hdl
      rw [hu, hv] at hnext
      rw [hu] at hsz
      rw [hu]
      have e1 : ((16 : Int) * (k : Int)).toNat = 16 * k := by omega
      have e2 : ((16 : Int) * (k : Int) + 16).toNat = 16 * k + 16 := by omega
      replace hy := Box.mk hy
      replace hu := Box.mk hu
      replace hv := Box.mk hv
      replace hd := Box.mk hd
      have hl3 := hQ.out.lt
      have d3 : wr.drew.cell? ⟨bd, k, none⟩ = some (.int .i64 (d : Int)) := c3
      go_wp2_with fail
      refine region_go (C := fun w' => w'.cell? ⟨bd, k, none⟩ = some (.int .i64 (d : Int))) rfl ?_
      refine go_calms [0, 1, 2, 3, 4, 5, 6, 7, 8, 9, 10, 11, 12] 3 rfl (by kernel_rfl) (by kernel_rfl) (by kernel_rfl) d3 ?_
      simp [nth]
      try simp only [Act.put]
      repeat (go_big_quiet_step (first | exact fun _ => rfl | rfl))
      refine quiet_any rfl (.int .i64 (d : Int)) (fun w' hw' => by go_simp) ?_
      simp only [Act.put, List.setIfInBounds_toArray, List.set_cons_succ, List.set_cons_zero]
      repeat (go_big_quiet_step (first | exact fun _ => rfl | rfl))
      refine wpQuiet_nil ?_
      have hBd : Box (Below w.heap.size w wr.drew) := ⟨hB.out.trans (Drawn.below ⟨1, rfl⟩)⟩
      have hQd : Box (Blk wr.drew bd (dcell dg) 78) := ⟨hQ.out.drewN 1⟩
      refine go_forced 13 (by kernel_rfl) (goOp_wp 13 rfl rfl (fun K hK => ?_))
      go_simp
      refine hG.mono ?_
      rintro e w2 ⟨rfl, hb2⟩
      have hB2 : Box (Below w.heap.size w w2) := ⟨hBd.out.trans (hb2.mono hBd.out.size)⟩
      have hQ2 : Box (Blk w2 bd (dcell dg) 78) := ⟨hQd.out.below hb2 hQd.out.lt⟩
      have d2 : w2.cell? ⟨bd, k, none⟩ = some (.int .i64 (d : Int)) := (hb2.cell (p := ⟨bd, k, none⟩) hQd.out.lt).trans d3
      refine hK _ _ d2 ?_
      clear hK K hG hb2 hB hBd hQd c3 d3
      refine go_calms [14, 15] 0 rfl (by kernel_rfl) (by kernel_rfl) (by kernel_rfl) d2 ?_
      simp [nth]
      try simp only [Act.put]
      repeat (go_big_quiet_step (first | exact fun _ => rfl | rfl))
      refine wpQuiet_nil ?_
      refine go_done (by kernel_rfl) ?_
      go_simp
      go_wp2_with fail
      have hm : 18 - (intOf (Value.int IntKind.i64 (↑k + 1))).toNat < 18 - (intOf (Value.int IntKind.i64 ↑k)).toNat := by simp [intOf]; omega
      exact ⟨⟨k + 1, by omega, by rw [hv.out], by go_num, hQ2, hB2⟩, hm⟩
    · obtain rfl : k = 18 := by omega
      have hsz := hac.out 18 hk
      obtain ⟨u, hu⟩ : ∃ u, accT (recV n t q) 18 = u := ⟨_, rfl⟩
      rw [hu] at hsz
      have hF := rtag_parts 35 (.slice (some ⟨wr.heap.size, 0, none⟩) 1 1) [u] (wr.alloc (.cells #[.string u] 9)) (parts_new wr [u] 9) (tag288 u hsz) (by simp)
      rw [show hashOf (tagL 35 [u]) = recT n t q by rw [← hu]; rfl] at hF
      have hB1 : Box (Below w.heap.size w (wr.alloc (.cells #[.string u] 9))) := ⟨hB.out.alloc hB.out.size _⟩
      rw [hu]
      replace hu := Box.mk hu
      clear hL hB hQ
      go_wp2_with fail
      refine hF.mono ?_
      clear hF
      rintro e w2 ⟨rfl, hb2⟩
      have hB2 : Box (Below w.heap.size w w2) := ⟨hB1.out.trans (hb2.mono hB1.out.size)⟩
      clear hb2 hB1
      go_wp2_with fail
      go_returns
      exact ⟨rfl, hB2.out⟩
end Go.Proofs.YtdjppgmaokcgiaaGreatDoor
