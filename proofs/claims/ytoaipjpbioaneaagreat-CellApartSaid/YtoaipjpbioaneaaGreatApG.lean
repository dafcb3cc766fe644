/- The walk of the law CellApart. -/
import Derived.Test.YtoaipjpbioaneaaGreatMAp
import Derived.Deep.CutRange
namespace Go.Proofs.YtoaipjpbioaneaaGreat
open Go.RowKit Go.Maps

theorem Kept.headB {w0 w : World} {ba bd bw : Nat} {A B : Obj} (h : Kept w0 (Pair2 A (Pair2 B (HeadO ba bd bw))) w) : Blk w ba (WorldCells bd bw none none) 41 := by
  obtain ⟨F, ⟨_, _, _, ⟨_, _, _, ⟨_, _, h1, _⟩, _⟩, _⟩, _⟩ := h
  exact h1.1
theorem Kept.rawB0 {w0 w : World} {ba bd bw n : Nat} (h : Kept w0 (RawO ba bd bw n) w) : Blk w ba (WorldCells bd bw none none) 41 := h.blk
theorem Kept.apB {X : Obj} {wb w : World} {p q : Pl} {bd b1 b2 : Nat} {D DB DC : Dev} {M1 M2 MB MC : CellM} (h : Kept wb (ApX X p q bd b1 b2 D M1 M2 DB MB DC MC) w) : Blk w p.ba (WorC p.bd p.bc p.bw p.bq) 41 := by
  obtain ⟨F, ⟨_, _, _, ⟨_, _, ⟨_, _, h1, _⟩, _⟩, _⟩, _⟩ := h
  exact h1.1
theorem Kept.apH {wb w : World} {p q : Pl} {ba bw bd b1 b2 : Nat} {D DB DC : Dev} {M1 M2 MB MC : CellM} (h : Kept wb (ApX (HeadO ba bd bw) p q bd b1 b2 D M1 M2 DB MB DC MC) w) : Blk w ba (WorldCells bd bw none none) 41 := by
  obtain ⟨F, ⟨_, _, ⟨_, _, h1, _⟩, _⟩, _⟩ := h
  exact h1.1
theorem Kept.endH {w0 w : World} {ba bd bw : Nat} {A B C : Obj} (h : Kept w0 (Pair2 A (Pair2 B (Pair2 (HeadO ba bd bw) C))) w) : Blk w ba (WorldCells bd bw none none) 41 := by
  obtain ⟨F, ⟨_, _, _, ⟨_, _, _, ⟨_, _, ⟨_, _, h1, _⟩, _⟩, _⟩, _⟩, _⟩ := h
  exact h1.1
theorem Kept.apC {X : Obj} {wb w : World} {p q : Pl} {bd b1 b2 : Nat} {D DB DC : Dev} {M1 M2 MB MC : CellM} (h : Kept wb (ApX X p q bd b1 b2 D M1 M2 DB MB DC MC) w) : Blk w q.ba (WorC q.bd q.bc q.bw q.bq) 41 := by
  obtain ⟨F, ⟨_, _, _, ⟨_, _, _, ⟨_, _, ⟨_, _, h1, _⟩, _⟩, _⟩, _⟩, _⟩ := h
  exact h1.1
set_option maxHeartbeats 6400000 in
set_option maxRecDepth 100000 in
theorem apart_law (a1 a2 : Option Addr) (L1 C1 L2 C2 : Nat) (w : World) (hA1 : OpsAt w a1 L1) (hA2 : OpsAt w a2 L2) (hC1 : L1 ≤ C1 ∧ C1 ≤ maxLen) (hC2 : L2 ≤ C2 ∧ C2 ≤ maxLen) :
    Calls Tryz.prog 4 #[.slice a1 L1 C1, .slice a2 L2 C2] w fun e w' => e = .returned (.bool true) ∧ Below w.heap.size w w' := by
  have hK := Box.mk (commits_any w)
  have hb1 : L1 ≤ 9223372036854775807 := by have := hC1.2; unfold maxLen at this; omega
  have hb2 : L2 ≤ 9223372036854775807 := by have := hC2.2; unfold maxLen at this; omega
  replace hA1 := Box.mk hA1
  replace hA2 := Box.mk hA2
  replace hC1 := Box.mk hC1
  replace hC2 := Box.mk hC2
  go_enter Tryz.func4, Tryz.ntmps4
  go_wp2_with fail
  refine hK.out.mono ?_
  rintro e w1 ⟨rfl, hB1⟩
  replace hB1 := Box.mk hB1
  have hBg := Box.mk (begun_first (n := 30) (w := w1) (by decide) (by decide))
  clear hK
  go_wp2_with fail
  refine hBg.out.mono ?_
  rintro e w2 ⟨ba, bd, bw, rfl, hk2⟩
  have d0 : w2.cell? ⟨ba, 0, none⟩ = some (.pointer (some ⟨bd, 0, none⟩)) := hk2.out.rawB0.cell 0
  have hO1 := Box.mk (duo_one hk2.out)
  clear hBg hk2
  go_wp2_with fail
  refine hO1.out.mono ?_
  rintro e w3 ⟨b1, rfl, hk3⟩
  have d0' : w3.cell? ⟨ba, 0, none⟩ = some (.pointer (some ⟨bd, 0, none⟩)) := hk3.out.headB.cell 0
  have hO2 := Box.mk (duo_two hk3.out)
  clear hO1 hk3 d0
  go_wp2_with fail
  refine hO2.out.mono ?_
  rintro e w4 ⟨b2, rfl, hk4⟩
  clear hO2 d0'
  have hBb := Box.mk (begun_ap (n := 30) DuoO.good hk4.out (by decide) (by decide))
  clear hk4
  go_wp2_with fail
  refine hBb.out.mono ?_
  rintro e w5 ⟨pa, pd, pw, rfl, hk5⟩
  have hBc := Box.mk (begun_ap (n := 30) (Pair2.good DuoO.good RawO.good) hk5.out (by decide) (by decide))
  clear hBb hk5
  go_wp2_with fail
  refine hBc.out.mono ?_
  rintro e w6 ⟨qa, qd, qw, rfl, hk6⟩
  have hOb := Box.mk (open_ap (base := 0) (half := 5) (Pair2.good DuoO.good RawO.good) (hk6.out.cv cvFirst) (by decide) (by decide) (by decide))
  clear hBc hk6
  go_wp2_with fail
  refine hOb.out.mono ?_
  rintro e w7 ⟨rfl, hk7⟩
  obtain ⟨pc, pq, hk7⟩ := hk7.out
  have hOc := Box.mk (open_ap (base := 10) (half := 10) (Pair2.good (AllO.good _ _ _ _ _ _ _ _ _) DuoO.good) (hk7.cv cvSecond) (by decide) (by decide) (by decide))
  clear hOb hk7
  go_wp2_with fail
  refine hOc.out.mono ?_
  rintro e w8 ⟨rfl, hk8⟩
  obtain ⟨qc, qq, hk8⟩ := hk8.out
  have hst : Box (∃ D DB DC M1 M2, Kept w1 (ApX (HeadO ba bd bw) ⟨pa, pd, pc, pw, pq⟩ ⟨qa, qd, qc, qw, qq⟩ bd b1 b2 D M1 M2 DB M1 DC M2) w8 ∧ ApI 0 D M1 M2 DB DC) := ⟨_, _, _, _, _, hk8.cv (cvAp (p := ⟨pa, pd, pc, pw, pq⟩) (q := ⟨qa, qd, qc, qw, qq⟩)), ApI.start⟩
  clear hOc hk8
  go_wp2_with fail
  go_loopw [58] (fun q wr => ∃ i : Nat, i ≤ 30 ∧ q = .int .i64 (i : Int) ∧ Box (∃ D DB DC M1 M2, Kept w1 (ApX (HeadO ba bd bw) ⟨pa, pd, pc, pw, pq⟩ ⟨qa, qd, qc, qw, qq⟩ bd b1 b2 D M1 M2 DB M1 DC M2) wr ∧ ApI (2 * i) D M1 M2 DB DC)) (fun q _ => 30 - (intOf q).toNat)
  case atStart => exact ⟨0, by omega, rfl, hst⟩
  case round =>
    clear hst
    obtain ⟨i, hi, rfl, hst⟩ := hrel
    by_cases hi30 : i < 30
    · by_cases hi1 : i < L1
      · obtain ⟨D, DB, DC, M1, M2, hk, hI⟩ := hst.out
        obtain ⟨cb, co, rfl, hcb, each⟩ := hA1.out.out (by omega)
        obtain ⟨k, s, t, n, va, vl, vc, hx, hsl, htl⟩ := each i hi1
        have hx1 := range_below hx hB1.out hcb
        have hkc : cb < w1.heap.size := Nat.lt_of_lt_of_le hcb hB1.out.size
        have hx2 := range_below hx1 hk.k hkc
        have o0 : wr.cell? ⟨cb, co + i * 5, none⟩ = some (.int .u8 (k.toNat : Int)) := hx2 0 _ rfl
        obtain ⟨kk, hkk⟩ : ∃ kk : Nat, k.toNat % 10 = kk := ⟨_, rfl⟩
        have hki : (k.toNat : Int) % 10 = (kk : Int) := by omega
        by_cases h7 : kk < 7
        · have h7i : (kk : Int) < 7 := by omega
          unfold opC at hx1 hx2
          have hbw := hk.apB
          have hCd : Box (wr.drew.rangeAt cb (co + i * 5) [.int .u8 (k.toNat : Int), .string s, .string t, .int .i64 n, .slice va vl vc] ∧ wr.drew.cell? ⟨pa, 1, none⟩ = some (.pointer (some ⟨pc, 0, none⟩))) := ⟨hx2, hbw.cell 1⟩
          have hkd := Box.mk (hk.below (ApX.good HeadO.good) (below_drew' _ wr))
          have hk10 : k.toNat % 10 < 7 := by omega
          replace hk10 := Box.mk hk10
          replace hI := Box.mk hI
          replace hx1 := Box.mk hx1
          replace hsl := Box.mk hsl
          replace htl := Box.mk htl
          clear each hx hx2 hk hbw hkk hst
          go_wp2_with fail
          refine region_go (C := fun w' => w'.rangeAt cb (co + i * 5) [.int .u8 (k.toNat : Int), .string s, .string t, .int .i64 n, .slice va vl vc] ∧ w'.cell? ⟨pa, 1, none⟩ = some (.pointer (some ⟨pc, 0, none⟩))) rfl ?_
          generalize wr.drew = wd at hCd hkd ⊢
          have hS := Box.mk (ap_b (n := n) (v := .slice va vl vc) HeadO.good hkd.out hI.out (by omega) hk10.out hsl.out htl.out 0 5)
          refine go_calms [0, 1, 2, 3, 4] 15 rfl (by kernel_rfl) (by kernel_rfl) (by kernel_rfl) hCd.out ?_
          simp [nth]
          try simp only [Act.put]
          repeat (go_big_quiet_step (first | exact fun _ => rfl | rfl))
          refine quiet_any rfl (.pointer (some ⟨cb, co + i * 5, none⟩)) (fun w' hw' => by
            have h1 := hw'.2
            go_simp) ?_
          simp only [Act.put, List.setIfInBounds_toArray, List.set_cons_succ, List.set_cons_zero]
          refine quiet_any rfl (.agg #[.int .u8 (k.toNat : Int), .string s, .string t, .int .i64 n, .slice va vl vc]) (fun w' hw' => exec_load_mid _ 31 (.tmp 77) rfl cb (co + i * 5) rfl [.int .u8 (k.toNat : Int), .string s, .string t, .int .i64 n, .slice va vl vc] _ hw'.1 Tryz.underlying31 rfl (by kernel_rfl)) ?_
          simp only [Act.put, List.setIfInBounds_toArray, List.set_cons_succ, List.set_cons_zero]
          refine wpQuiet_nil ?_
          refine go_forced 5 (by kernel_rfl) (goOp_wp 5 rfl rfl (fun K hK => ?_))
          go_simp
          refine hS.out.mono ?_
          rintro e w51 ⟨rfl, hk5⟩
          have hC5 : w51.rangeAt cb (co + i * 5) [.int .u8 (k.toNat : Int), .string s, .string t, .int .i64 n, .slice va vl vc] ∧ w51.cell? ⟨pa, 1, none⟩ = some (.pointer (some ⟨pc, 0, none⟩)) := ⟨range_below hx1.out hk5.out.k hkc, hk5.out.apB.cell 1⟩
          refine hK _ _ hC5 ?_
          clear hK K hS hCd hkd
          try simp only [Act.put]
          refine go_calms [6, 7, 8, 9, 10, 11, 12, 13, 14, 15, 16] 3 rfl (by kernel_rfl) (by kernel_rfl) (by kernel_rfl) hC5 ?_
          simp [nth]
          try simp only [Act.put]
          repeat (go_big_quiet_step (first | exact fun _ => rfl | rfl))
          refine quiet_any rfl (.bool false) (fun w' hw' => by
            have h1 := hw'.2
            go_simp) ?_
          simp only [Act.put, List.setIfInBounds_toArray, List.set_cons_succ, List.set_cons_zero]
          repeat (go_big_quiet_step (first | exact fun _ => rfl | rfl))
          refine quiet_any rfl (.pointer (some ⟨cb, co + i * 5, none⟩)) (fun w' hw' => by
            have h1 := hw'.2
            go_simp) ?_
          simp only [Act.put, List.setIfInBounds_toArray, List.set_cons_succ, List.set_cons_zero]
          refine quiet_any rfl (.agg #[.int .u8 (k.toNat : Int), .string s, .string t, .int .i64 n, .slice va vl vc]) (fun w' hw' => exec_load_mid _ 31 (.tmp 85) rfl cb (co + i * 5) rfl [.int .u8 (k.toNat : Int), .string s, .string t, .int .i64 n, .slice va vl vc] _ hw'.1 Tryz.underlying31 rfl (by kernel_rfl)) ?_
          simp only [Act.put, List.setIfInBounds_toArray, List.set_cons_succ, List.set_cons_zero]
          repeat (go_big_quiet_step (first | exact fun _ => rfl | rfl))
          refine quiet_any rfl (.pointer (some ⟨pa, 0, none⟩)) (fun w' hw' => by
            have h1 := hw'.2
            go_simp) ?_
          simp only [Act.put, List.setIfInBounds_toArray, List.set_cons_succ, List.set_cons_zero]
          refine quiet_any rfl (.pointer (some ⟨pa, 1, none⟩)) (fun w' hw' => by
            have h1 := hw'.2
            go_simp) ?_
          simp only [Act.put, List.setIfInBounds_toArray, List.set_cons_succ, List.set_cons_zero]
          refine quiet_any rfl (.pointer (some ⟨pc, 0, none⟩)) (fun w' hw' => by
            have h1 := hw'.2
            go_simp) ?_
          simp only [Act.put, List.setIfInBounds_toArray, List.set_cons_succ, List.set_cons_zero]
          refine wpQuiet_nil ?_
          have hT := Box.mk (ap_one (n := n) (v := .slice va vl vc) HeadO.good hk5.out hI.out (by omega) hk10.out hsl.out htl.out rfl)
          refine go_forced 17 (by kernel_rfl) (goOp_wp 17 rfl rfl (fun K hK => ?_))
          go_simp
          refine hT.out.mono ?_
          rintro e w61 ⟨rfl, hk6⟩
          have hC6 : w61.rangeAt cb (co + i * 5) [.int .u8 (k.toNat : Int), .string s, .string t, .int .i64 n, .slice va vl vc] ∧ w61.cell? ⟨pa, 1, none⟩ = some (.pointer (some ⟨pc, 0, none⟩)) := ⟨range_below hx1.out hk6.out.k hkc, hk6.out.apB.cell 1⟩
          refine hK _ _ hC6 ?_
          have hst1 : Box (∃ D DB DC M1 M2, Kept w1 (ApX (HeadO ba bd bw) ⟨pa, pd, pc, pw, pq⟩ ⟨qa, qd, qc, qw, qq⟩ bd b1 b2 D M1 M2 DB M1 DC M2) w61 ∧ ApI (2 * i + 1) D M1 M2 DB DC) := ⟨_, _, _, _, _, hk6.out, (hI.out.stepB (by omega) _ _ _).1⟩
          clear hK K hT hC5 hk5 hk6
          try simp only [Act.put]
          refine go_calms [18, 19] 0 rfl (by kernel_rfl) (by kernel_rfl) (by kernel_rfl) hC6 ?_
          simp [nth]
          try simp only [Act.put]
          repeat (go_big_quiet_step (first | exact fun _ => rfl | rfl))
          refine quiet_any rfl (.bool false) (fun w' hw' => by
            have h1 := hw'.2
            go_simp) ?_
          simp only [Act.put, List.setIfInBounds_toArray, List.set_cons_succ, List.set_cons_zero]
          repeat (go_big_quiet_step (first | exact fun _ => rfl | rfl))
          try (refine quiet_any rfl (.bool false) (fun w' hw' => by go_simp) ?_; simp only [Act.put, List.setIfInBounds_toArray, List.set_cons_succ, List.set_cons_zero])
          refine wpQuiet_nil ?_
          refine go_done (by kernel_rfl) ?_
          clear hC6 hx1 hsl htl hk10 hI hkc o0 hki h7 h7i
          by_cases hi2 : i < L2
          · obtain ⟨D, DB, DC, M1, M2, hk, hI⟩ := hst1.out
            obtain ⟨cb, co, rfl, hcb, each⟩ := hA2.out.out (by omega)
            obtain ⟨k, s, t, n, va, vl, vc, hx, hsl, htl⟩ := each i hi2
            have hx1 := range_below hx hB1.out hcb
            have hkc : cb < w1.heap.size := Nat.lt_of_lt_of_le hcb hB1.out.size
            have hx2 := range_below hx1 hk.k hkc
            have o0 : w61.cell? ⟨cb, co + i * 5, none⟩ = some (.int .u8 (k.toNat : Int)) := hx2 0 _ rfl
            obtain ⟨kk, hkk⟩ : ∃ kk : Nat, k.toNat % 10 = kk := ⟨_, rfl⟩
            have hki : (k.toNat : Int) % 10 = (kk : Int) := by omega
            by_cases h7 : kk < 7
            · have h7i : (kk : Int) < 7 := by omega
              unfold opC at hx1 hx2
              have hbw := hk.apC
              have hCd : Box (w61.drew.rangeAt cb (co + i * 5) [.int .u8 (k.toNat : Int), .string s, .string t, .int .i64 n, .slice va vl vc] ∧ w61.drew.cell? ⟨qa, 1, none⟩ = some (.pointer (some ⟨qc, 0, none⟩))) := ⟨hx2, hbw.cell 1⟩
              have hkd := Box.mk (hk.below (ApX.good HeadO.good) (below_drew' _ w61))
              have hk10 : k.toNat % 10 < 7 := by omega
              replace hk10 := Box.mk hk10
              replace hI := Box.mk hI
              replace hx1 := Box.mk hx1
              replace hsl := Box.mk hsl
              replace htl := Box.mk htl
              clear each hx hx2 hk hbw hkk hst1
              go_wp2_with fail
              refine region_go (C := fun w' => w'.rangeAt cb (co + i * 5) [.int .u8 (k.toNat : Int), .string s, .string t, .int .i64 n, .slice va vl vc] ∧ w'.cell? ⟨qa, 1, none⟩ = some (.pointer (some ⟨qc, 0, none⟩))) rfl ?_
              generalize w61.drew = wd at hCd hkd ⊢
              have hS := Box.mk (ap_c (n := n) (v := .slice va vl vc) HeadO.good hkd.out hI.out (by omega) hk10.out hsl.out htl.out 10 10)
              refine go_calms [0, 1, 2, 3, 4] 15 rfl (by kernel_rfl) (by kernel_rfl) (by kernel_rfl) hCd.out ?_
              simp [nth]
              try simp only [Act.put]
              repeat (go_big_quiet_step (first | exact fun _ => rfl | rfl))
              refine quiet_any rfl (.pointer (some ⟨cb, co + i * 5, none⟩)) (fun w' hw' => by
                have h1 := hw'.2
                go_simp) ?_
              simp only [Act.put, List.setIfInBounds_toArray, List.set_cons_succ, List.set_cons_zero]
              refine quiet_any rfl (.agg #[.int .u8 (k.toNat : Int), .string s, .string t, .int .i64 n, .slice va vl vc]) (fun w' hw' => exec_load_mid _ 31 (.tmp 110) rfl cb (co + i * 5) rfl [.int .u8 (k.toNat : Int), .string s, .string t, .int .i64 n, .slice va vl vc] _ hw'.1 Tryz.underlying31 rfl (by kernel_rfl)) ?_
              simp only [Act.put, List.setIfInBounds_toArray, List.set_cons_succ, List.set_cons_zero]
              refine wpQuiet_nil ?_
              refine go_forced 5 (by kernel_rfl) (goOp_wp 5 rfl rfl (fun K hK => ?_))
              go_simp
              refine hS.out.mono ?_
              rintro e w52 ⟨rfl, hk5⟩
              have hC5 : w52.rangeAt cb (co + i * 5) [.int .u8 (k.toNat : Int), .string s, .string t, .int .i64 n, .slice va vl vc] ∧ w52.cell? ⟨qa, 1, none⟩ = some (.pointer (some ⟨qc, 0, none⟩)) := ⟨range_below hx1.out hk5.out.k hkc, hk5.out.apC.cell 1⟩
              refine hK _ _ hC5 ?_
              clear hK K hS hCd hkd
              try simp only [Act.put]
              refine go_calms [6, 7, 8, 9, 10, 11, 12, 13, 14, 15, 16] 3 rfl (by kernel_rfl) (by kernel_rfl) (by kernel_rfl) hC5 ?_
              simp [nth]
              try simp only [Act.put]
              repeat (go_big_quiet_step (first | exact fun _ => rfl | rfl))
              refine quiet_any rfl (.bool false) (fun w' hw' => by
                have h1 := hw'.2
                go_simp) ?_
              simp only [Act.put, List.setIfInBounds_toArray, List.set_cons_succ, List.set_cons_zero]
              repeat (go_big_quiet_step (first | exact fun _ => rfl | rfl))
              refine quiet_any rfl (.pointer (some ⟨cb, co + i * 5, none⟩)) (fun w' hw' => by
                have h1 := hw'.2
                go_simp) ?_
              simp only [Act.put, List.setIfInBounds_toArray, List.set_cons_succ, List.set_cons_zero]
              refine quiet_any rfl (.agg #[.int .u8 (k.toNat : Int), .string s, .string t, .int .i64 n, .slice va vl vc]) (fun w' hw' => exec_load_mid _ 31 (.tmp 118) rfl cb (co + i * 5) rfl [.int .u8 (k.toNat : Int), .string s, .string t, .int .i64 n, .slice va vl vc] _ hw'.1 Tryz.underlying31 rfl (by kernel_rfl)) ?_
              simp only [Act.put, List.setIfInBounds_toArray, List.set_cons_succ, List.set_cons_zero]
              repeat (go_big_quiet_step (first | exact fun _ => rfl | rfl))
              refine quiet_any rfl (.pointer (some ⟨qa, 0, none⟩)) (fun w' hw' => by
                have h1 := hw'.2
                go_simp) ?_
              simp only [Act.put, List.setIfInBounds_toArray, List.set_cons_succ, List.set_cons_zero]
              refine quiet_any rfl (.pointer (some ⟨qa, 1, none⟩)) (fun w' hw' => by
                have h1 := hw'.2
                go_simp) ?_
              simp only [Act.put, List.setIfInBounds_toArray, List.set_cons_succ, List.set_cons_zero]
              refine quiet_any rfl (.pointer (some ⟨qc, 0, none⟩)) (fun w' hw' => by
                have h1 := hw'.2
                go_simp) ?_
              simp only [Act.put, List.setIfInBounds_toArray, List.set_cons_succ, List.set_cons_zero]
              refine wpQuiet_nil ?_
              have hT := Box.mk (ap_two (n := n) (v := .slice va vl vc) HeadO.good hk5.out hI.out (by omega) hk10.out hsl.out htl.out rfl)
              refine go_forced 17 (by kernel_rfl) (goOp_wp 17 rfl rfl (fun K hK => ?_))
              go_simp
              refine hT.out.mono ?_
              rintro e w62 ⟨rfl, hk6⟩
              have hC6 : w62.rangeAt cb (co + i * 5) [.int .u8 (k.toNat : Int), .string s, .string t, .int .i64 n, .slice va vl vc] ∧ w62.cell? ⟨qa, 1, none⟩ = some (.pointer (some ⟨qc, 0, none⟩)) := ⟨range_below hx1.out hk6.out.k hkc, hk6.out.apC.cell 1⟩
              refine hK _ _ hC6 ?_
              have hst2 : Box (∃ D DB DC M1 M2, Kept w1 (ApX (HeadO ba bd bw) ⟨pa, pd, pc, pw, pq⟩ ⟨qa, qd, qc, qw, qq⟩ bd b1 b2 D M1 M2 DB M1 DC M2) w62 ∧ ApI (2 * (i + 1)) D M1 M2 DB DC) := ⟨_, _, _, _, _, hk6.out, (hI.out.stepC (by omega) _ _ _).1⟩
              clear hK K hT hC5 hk5 hk6
              try simp only [Act.put]
              refine go_calms [18, 19] 0 rfl (by kernel_rfl) (by kernel_rfl) (by kernel_rfl) hC6 ?_
              simp [nth]
              try simp only [Act.put]
              repeat (go_big_quiet_step (first | exact fun _ => rfl | rfl))
              refine quiet_any rfl (.bool false) (fun w' hw' => by
                have h1 := hw'.2
                go_simp) ?_
              simp only [Act.put, List.setIfInBounds_toArray, List.set_cons_succ, List.set_cons_zero]
              repeat (go_big_quiet_step (first | exact fun _ => rfl | rfl))
              try (refine quiet_any rfl (.bool false) (fun w' hw' => by go_simp) ?_; simp only [Act.put, List.setIfInBounds_toArray, List.set_cons_succ, List.set_cons_zero])
              refine wpQuiet_nil ?_
              refine go_done (by kernel_rfl) ?_
              clear hC6 hx1 hsl htl hk10 hI hkc o0 hki h7 h7i
              go_wp2_with fail
              exact ⟨⟨i + 1, by omega, by go_num, hst2⟩, by simp [intOf]; omega⟩
            · have hst2 : Box (∃ D DB DC M1 M2, Kept w1 (ApX (HeadO ba bd bw) ⟨pa, pd, pc, pw, pq⟩ ⟨qa, qd, qc, qw, qq⟩ bd b1 b2 D M1 M2 DB M1 DC M2) w61 ∧ ApI (2 * (i + 1)) D M1 M2 DB DC) := ⟨by
                obtain ⟨D, DB, DC, M1, M2, hk, hI⟩ := hst1.out
                exact ⟨D, DB, DC, M1, M2, hk, hI.one.onward (by omega), hI.two.onward (by omega), hI.b.onward (by omega), hI.c.onward (by omega)⟩⟩
              clear hst1
              have h7i : ¬ (kk : Int) < 7 := by omega
              clear each hx hx1 hx2 hk hI hkk hsl htl
              go_wp2_with fail
              exact ⟨⟨i + 1, by omega, by go_num, hst2⟩, by simp [intOf]; omega⟩
          · have hst2 : Box (∃ D DB DC M1 M2, Kept w1 (ApX (HeadO ba bd bw) ⟨pa, pd, pc, pw, pq⟩ ⟨qa, qd, qc, qw, qq⟩ bd b1 b2 D M1 M2 DB M1 DC M2) w61 ∧ ApI (2 * (i + 1)) D M1 M2 DB DC) := ⟨by
              obtain ⟨D, DB, DC, M1, M2, hk, hI⟩ := hst1.out
              exact ⟨D, DB, DC, M1, M2, hk, hI.one.onward (by omega), hI.two.onward (by omega), hI.b.onward (by omega), hI.c.onward (by omega)⟩⟩
            clear hst1
            go_wp2_with fail
            exact ⟨⟨i + 1, by omega, by go_num, hst2⟩, by simp [intOf]; omega⟩
        · have hst1 : Box (∃ D DB DC M1 M2, Kept w1 (ApX (HeadO ba bd bw) ⟨pa, pd, pc, pw, pq⟩ ⟨qa, qd, qc, qw, qq⟩ bd b1 b2 D M1 M2 DB M1 DC M2) wr ∧ ApI (2 * i + 1) D M1 M2 DB DC) := ⟨by
            obtain ⟨D, DB, DC, M1, M2, hk, hI⟩ := hst.out
            exact ⟨D, DB, DC, M1, M2, hk, hI.one.onward (by omega), hI.two.onward (by omega), hI.b.onward (by omega), hI.c.onward (by omega)⟩⟩
          clear hst
          have h7i : ¬ (kk : Int) < 7 := by omega
          clear each hx hx1 hx2 hk hI hkk hsl htl
          by_cases hi2 : i < L2
          · obtain ⟨D, DB, DC, M1, M2, hk, hI⟩ := hst1.out
            obtain ⟨cb, co, rfl, hcb, each⟩ := hA2.out.out (by omega)
            obtain ⟨k, s, t, n, va, vl, vc, hx, hsl, htl⟩ := each i hi2
            have hx1 := range_below hx hB1.out hcb
            have hkc : cb < w1.heap.size := Nat.lt_of_lt_of_le hcb hB1.out.size
            have hx2 := range_below hx1 hk.k hkc
            have o0 : wr.cell? ⟨cb, co + i * 5, none⟩ = some (.int .u8 (k.toNat : Int)) := hx2 0 _ rfl
            obtain ⟨kk, hkk⟩ : ∃ kk : Nat, k.toNat % 10 = kk := ⟨_, rfl⟩
            have hki : (k.toNat : Int) % 10 = (kk : Int) := by omega
            by_cases h7 : kk < 7
            · have h7i : (kk : Int) < 7 := by omega
              unfold opC at hx1 hx2
              have hbw := hk.apC
              have hCd : Box (wr.drew.rangeAt cb (co + i * 5) [.int .u8 (k.toNat : Int), .string s, .string t, .int .i64 n, .slice va vl vc] ∧ wr.drew.cell? ⟨qa, 1, none⟩ = some (.pointer (some ⟨qc, 0, none⟩))) := ⟨hx2, hbw.cell 1⟩
              have hkd := Box.mk (hk.below (ApX.good HeadO.good) (below_drew' _ wr))
              have hk10 : k.toNat % 10 < 7 := by omega
              replace hk10 := Box.mk hk10
              replace hI := Box.mk hI
              replace hx1 := Box.mk hx1
              replace hsl := Box.mk hsl
              replace htl := Box.mk htl
              clear each hx hx2 hk hbw hkk hst1
              go_wp2_with fail
              refine region_go (C := fun w' => w'.rangeAt cb (co + i * 5) [.int .u8 (k.toNat : Int), .string s, .string t, .int .i64 n, .slice va vl vc] ∧ w'.cell? ⟨qa, 1, none⟩ = some (.pointer (some ⟨qc, 0, none⟩))) rfl ?_
              generalize wr.drew = wd at hCd hkd ⊢
              have hS := Box.mk (ap_c (n := n) (v := .slice va vl vc) HeadO.good hkd.out hI.out (by omega) hk10.out hsl.out htl.out 10 10)
              refine go_calms [0, 1, 2, 3, 4] 15 rfl (by kernel_rfl) (by kernel_rfl) (by kernel_rfl) hCd.out ?_
              simp [nth]
              try simp only [Act.put]
              repeat (go_big_quiet_step (first | exact fun _ => rfl | rfl))
              refine quiet_any rfl (.pointer (some ⟨cb, co + i * 5, none⟩)) (fun w' hw' => by
                have h1 := hw'.2
                go_simp) ?_
              simp only [Act.put, List.setIfInBounds_toArray, List.set_cons_succ, List.set_cons_zero]
              refine quiet_any rfl (.agg #[.int .u8 (k.toNat : Int), .string s, .string t, .int .i64 n, .slice va vl vc]) (fun w' hw' => exec_load_mid _ 31 (.tmp 110) rfl cb (co + i * 5) rfl [.int .u8 (k.toNat : Int), .string s, .string t, .int .i64 n, .slice va vl vc] _ hw'.1 Tryz.underlying31 rfl (by kernel_rfl)) ?_
              simp only [Act.put, List.setIfInBounds_toArray, List.set_cons_succ, List.set_cons_zero]
              refine wpQuiet_nil ?_
              refine go_forced 5 (by kernel_rfl) (goOp_wp 5 rfl rfl (fun K hK => ?_))
              go_simp
              refine hS.out.mono ?_
              rintro e w52 ⟨rfl, hk5⟩
              have hC5 : w52.rangeAt cb (co + i * 5) [.int .u8 (k.toNat : Int), .string s, .string t, .int .i64 n, .slice va vl vc] ∧ w52.cell? ⟨qa, 1, none⟩ = some (.pointer (some ⟨qc, 0, none⟩)) := ⟨range_below hx1.out hk5.out.k hkc, hk5.out.apC.cell 1⟩
              refine hK _ _ hC5 ?_
              clear hK K hS hCd hkd
              try simp only [Act.put]
              refine go_calms [6, 7, 8, 9, 10, 11, 12, 13, 14, 15, 16] 3 rfl (by kernel_rfl) (by kernel_rfl) (by kernel_rfl) hC5 ?_
              simp [nth]
              try simp only [Act.put]
              repeat (go_big_quiet_step (first | exact fun _ => rfl | rfl))
              refine quiet_any rfl (.bool false) (fun w' hw' => by
                have h1 := hw'.2
                go_simp) ?_
              simp only [Act.put, List.setIfInBounds_toArray, List.set_cons_succ, List.set_cons_zero]
              repeat (go_big_quiet_step (first | exact fun _ => rfl | rfl))
              refine quiet_any rfl (.pointer (some ⟨cb, co + i * 5, none⟩)) (fun w' hw' => by
                have h1 := hw'.2
                go_simp) ?_
              simp only [Act.put, List.setIfInBounds_toArray, List.set_cons_succ, List.set_cons_zero]
              refine quiet_any rfl (.agg #[.int .u8 (k.toNat : Int), .string s, .string t, .int .i64 n, .slice va vl vc]) (fun w' hw' => exec_load_mid _ 31 (.tmp 118) rfl cb (co + i * 5) rfl [.int .u8 (k.toNat : Int), .string s, .string t, .int .i64 n, .slice va vl vc] _ hw'.1 Tryz.underlying31 rfl (by kernel_rfl)) ?_
              simp only [Act.put, List.setIfInBounds_toArray, List.set_cons_succ, List.set_cons_zero]
              repeat (go_big_quiet_step (first | exact fun _ => rfl | rfl))
              refine quiet_any rfl (.pointer (some ⟨qa, 0, none⟩)) (fun w' hw' => by
                have h1 := hw'.2
                go_simp) ?_
              simp only [Act.put, List.setIfInBounds_toArray, List.set_cons_succ, List.set_cons_zero]
              refine quiet_any rfl (.pointer (some ⟨qa, 1, none⟩)) (fun w' hw' => by
                have h1 := hw'.2
                go_simp) ?_
              simp only [Act.put, List.setIfInBounds_toArray, List.set_cons_succ, List.set_cons_zero]
              refine quiet_any rfl (.pointer (some ⟨qc, 0, none⟩)) (fun w' hw' => by
                have h1 := hw'.2
                go_simp) ?_
              simp only [Act.put, List.setIfInBounds_toArray, List.set_cons_succ, List.set_cons_zero]
              refine wpQuiet_nil ?_
              have hT := Box.mk (ap_two (n := n) (v := .slice va vl vc) HeadO.good hk5.out hI.out (by omega) hk10.out hsl.out htl.out rfl)
              refine go_forced 17 (by kernel_rfl) (goOp_wp 17 rfl rfl (fun K hK => ?_))
              go_simp
              refine hT.out.mono ?_
              rintro e w62 ⟨rfl, hk6⟩
              have hC6 : w62.rangeAt cb (co + i * 5) [.int .u8 (k.toNat : Int), .string s, .string t, .int .i64 n, .slice va vl vc] ∧ w62.cell? ⟨qa, 1, none⟩ = some (.pointer (some ⟨qc, 0, none⟩)) := ⟨range_below hx1.out hk6.out.k hkc, hk6.out.apC.cell 1⟩
              refine hK _ _ hC6 ?_
              have hst2 : Box (∃ D DB DC M1 M2, Kept w1 (ApX (HeadO ba bd bw) ⟨pa, pd, pc, pw, pq⟩ ⟨qa, qd, qc, qw, qq⟩ bd b1 b2 D M1 M2 DB M1 DC M2) w62 ∧ ApI (2 * (i + 1)) D M1 M2 DB DC) := ⟨_, _, _, _, _, hk6.out, (hI.out.stepC (by omega) _ _ _).1⟩
              clear hK K hT hC5 hk5 hk6
              try simp only [Act.put]
              refine go_calms [18, 19] 0 rfl (by kernel_rfl) (by kernel_rfl) (by kernel_rfl) hC6 ?_
              simp [nth]
              try simp only [Act.put]
              repeat (go_big_quiet_step (first | exact fun _ => rfl | rfl))
              refine quiet_any rfl (.bool false) (fun w' hw' => by
                have h1 := hw'.2
                go_simp) ?_
              simp only [Act.put, List.setIfInBounds_toArray, List.set_cons_succ, List.set_cons_zero]
              repeat (go_big_quiet_step (first | exact fun _ => rfl | rfl))
              try (refine quiet_any rfl (.bool false) (fun w' hw' => by go_simp) ?_; simp only [Act.put, List.setIfInBounds_toArray, List.set_cons_succ, List.set_cons_zero])
              refine wpQuiet_nil ?_
              refine go_done (by kernel_rfl) ?_
              clear hC6 hx1 hsl htl hk10 hI hkc o0 hki h7 h7i
              go_wp2_with fail
              exact ⟨⟨i + 1, by omega, by go_num, hst2⟩, by simp [intOf]; omega⟩
            · have hst2 : Box (∃ D DB DC M1 M2, Kept w1 (ApX (HeadO ba bd bw) ⟨pa, pd, pc, pw, pq⟩ ⟨qa, qd, qc, qw, qq⟩ bd b1 b2 D M1 M2 DB M1 DC M2) wr ∧ ApI (2 * (i + 1)) D M1 M2 DB DC) := ⟨by
                obtain ⟨D, DB, DC, M1, M2, hk, hI⟩ := hst1.out
                exact ⟨D, DB, DC, M1, M2, hk, hI.one.onward (by omega), hI.two.onward (by omega), hI.b.onward (by omega), hI.c.onward (by omega)⟩⟩
              clear hst1
              have h7i : ¬ (kk : Int) < 7 := by omega
              clear each hx hx1 hx2 hk hI hkk hsl htl
              go_wp2_with fail
              exact ⟨⟨i + 1, by omega, by go_num, hst2⟩, by simp [intOf]; omega⟩
          · have hst2 : Box (∃ D DB DC M1 M2, Kept w1 (ApX (HeadO ba bd bw) ⟨pa, pd, pc, pw, pq⟩ ⟨qa, qd, qc, qw, qq⟩ bd b1 b2 D M1 M2 DB M1 DC M2) wr ∧ ApI (2 * (i + 1)) D M1 M2 DB DC) := ⟨by
              obtain ⟨D, DB, DC, M1, M2, hk, hI⟩ := hst1.out
              exact ⟨D, DB, DC, M1, M2, hk, hI.one.onward (by omega), hI.two.onward (by omega), hI.b.onward (by omega), hI.c.onward (by omega)⟩⟩
            clear hst1
            go_wp2_with fail
            exact ⟨⟨i + 1, by omega, by go_num, hst2⟩, by simp [intOf]; omega⟩
      · have hst1 : Box (∃ D DB DC M1 M2, Kept w1 (ApX (HeadO ba bd bw) ⟨pa, pd, pc, pw, pq⟩ ⟨qa, qd, qc, qw, qq⟩ bd b1 b2 D M1 M2 DB M1 DC M2) wr ∧ ApI (2 * i + 1) D M1 M2 DB DC) := ⟨by
          obtain ⟨D, DB, DC, M1, M2, hk, hI⟩ := hst.out
          exact ⟨D, DB, DC, M1, M2, hk, hI.one.onward (by omega), hI.two.onward (by omega), hI.b.onward (by omega), hI.c.onward (by omega)⟩⟩
        clear hst
        by_cases hi2 : i < L2
        · obtain ⟨D, DB, DC, M1, M2, hk, hI⟩ := hst1.out
          obtain ⟨cb, co, rfl, hcb, each⟩ := hA2.out.out (by omega)
          obtain ⟨k, s, t, n, va, vl, vc, hx, hsl, htl⟩ := each i hi2
          have hx1 := range_below hx hB1.out hcb
          have hkc : cb < w1.heap.size := Nat.lt_of_lt_of_le hcb hB1.out.size
          have hx2 := range_below hx1 hk.k hkc
          have o0 : wr.cell? ⟨cb, co + i * 5, none⟩ = some (.int .u8 (k.toNat : Int)) := hx2 0 _ rfl
          obtain ⟨kk, hkk⟩ : ∃ kk : Nat, k.toNat % 10 = kk := ⟨_, rfl⟩
          have hki : (k.toNat : Int) % 10 = (kk : Int) := by omega
          by_cases h7 : kk < 7
          · have h7i : (kk : Int) < 7 := by omega
            unfold opC at hx1 hx2
            have hbw := hk.apC
            have hCd : Box (wr.drew.rangeAt cb (co + i * 5) [.int .u8 (k.toNat : Int), .string s, .string t, .int .i64 n, .slice va vl vc] ∧ wr.drew.cell? ⟨qa, 1, none⟩ = some (.pointer (some ⟨qc, 0, none⟩))) := ⟨hx2, hbw.cell 1⟩
            have hkd := Box.mk (hk.below (ApX.good HeadO.good) (below_drew' _ wr))
            have hk10 : k.toNat % 10 < 7 := by omega
            replace hk10 := Box.mk hk10
            replace hI := Box.mk hI
            replace hx1 := Box.mk hx1
            replace hsl := Box.mk hsl
            replace htl := Box.mk htl
            clear each hx hx2 hk hbw hkk hst1
            go_wp2_with fail
            refine region_go (C := fun w' => w'.rangeAt cb (co + i * 5) [.int .u8 (k.toNat : Int), .string s, .string t, .int .i64 n, .slice va vl vc] ∧ w'.cell? ⟨qa, 1, none⟩ = some (.pointer (some ⟨qc, 0, none⟩))) rfl ?_
            generalize wr.drew = wd at hCd hkd ⊢
            have hS := Box.mk (ap_c (n := n) (v := .slice va vl vc) HeadO.good hkd.out hI.out (by omega) hk10.out hsl.out htl.out 10 10)
            refine go_calms [0, 1, 2, 3, 4] 15 rfl (by kernel_rfl) (by kernel_rfl) (by kernel_rfl) hCd.out ?_
            simp [nth]
            try simp only [Act.put]
            repeat (go_big_quiet_step (first | exact fun _ => rfl | rfl))
            refine quiet_any rfl (.pointer (some ⟨cb, co + i * 5, none⟩)) (fun w' hw' => by
              have h1 := hw'.2
              go_simp) ?_
            simp only [Act.put, List.setIfInBounds_toArray, List.set_cons_succ, List.set_cons_zero]
            refine quiet_any rfl (.agg #[.int .u8 (k.toNat : Int), .string s, .string t, .int .i64 n, .slice va vl vc]) (fun w' hw' => exec_load_mid _ 31 (.tmp 110) rfl cb (co + i * 5) rfl [.int .u8 (k.toNat : Int), .string s, .string t, .int .i64 n, .slice va vl vc] _ hw'.1 Tryz.underlying31 rfl (by kernel_rfl)) ?_
            simp only [Act.put, List.setIfInBounds_toArray, List.set_cons_succ, List.set_cons_zero]
            refine wpQuiet_nil ?_
            refine go_forced 5 (by kernel_rfl) (goOp_wp 5 rfl rfl (fun K hK => ?_))
            go_simp
            refine hS.out.mono ?_
            rintro e w52 ⟨rfl, hk5⟩
            have hC5 : w52.rangeAt cb (co + i * 5) [.int .u8 (k.toNat : Int), .string s, .string t, .int .i64 n, .slice va vl vc] ∧ w52.cell? ⟨qa, 1, none⟩ = some (.pointer (some ⟨qc, 0, none⟩)) := ⟨range_below hx1.out hk5.out.k hkc, hk5.out.apC.cell 1⟩
            refine hK _ _ hC5 ?_
            clear hK K hS hCd hkd
            try simp only [Act.put]
            refine go_calms [6, 7, 8, 9, 10, 11, 12, 13, 14, 15, 16] 3 rfl (by kernel_rfl) (by kernel_rfl) (by kernel_rfl) hC5 ?_
            simp [nth]
            try simp only [Act.put]
            repeat (go_big_quiet_step (first | exact fun _ => rfl | rfl))
            refine quiet_any rfl (.bool false) (fun w' hw' => by
              have h1 := hw'.2
              go_simp) ?_
            simp only [Act.put, List.setIfInBounds_toArray, List.set_cons_succ, List.set_cons_zero]
            repeat (go_big_quiet_step (first | exact fun _ => rfl | rfl))
            refine quiet_any rfl (.pointer (some ⟨cb, co + i * 5, none⟩)) (fun w' hw' => by
              have h1 := hw'.2
              go_simp) ?_
            simp only [Act.put, List.setIfInBounds_toArray, List.set_cons_succ, List.set_cons_zero]
            refine quiet_any rfl (.agg #[.int .u8 (k.toNat : Int), .string s, .string t, .int .i64 n, .slice va vl vc]) (fun w' hw' => exec_load_mid _ 31 (.tmp 118) rfl cb (co + i * 5) rfl [.int .u8 (k.toNat : Int), .string s, .string t, .int .i64 n, .slice va vl vc] _ hw'.1 Tryz.underlying31 rfl (by kernel_rfl)) ?_
            simp only [Act.put, List.setIfInBounds_toArray, List.set_cons_succ, List.set_cons_zero]
            repeat (go_big_quiet_step (first | exact fun _ => rfl | rfl))
            refine quiet_any rfl (.pointer (some ⟨qa, 0, none⟩)) (fun w' hw' => by
              have h1 := hw'.2
              go_simp) ?_
            simp only [Act.put, List.setIfInBounds_toArray, List.set_cons_succ, List.set_cons_zero]
            refine quiet_any rfl (.pointer (some ⟨qa, 1, none⟩)) (fun w' hw' => by
              have h1 := hw'.2
              go_simp) ?_
            simp only [Act.put, List.setIfInBounds_toArray, List.set_cons_succ, List.set_cons_zero]
            refine quiet_any rfl (.pointer (some ⟨qc, 0, none⟩)) (fun w' hw' => by
              have h1 := hw'.2
              go_simp) ?_
            simp only [Act.put, List.setIfInBounds_toArray, List.set_cons_succ, List.set_cons_zero]
            refine wpQuiet_nil ?_
            have hT := Box.mk (ap_two (n := n) (v := .slice va vl vc) HeadO.good hk5.out hI.out (by omega) hk10.out hsl.out htl.out rfl)
            refine go_forced 17 (by kernel_rfl) (goOp_wp 17 rfl rfl (fun K hK => ?_))
            go_simp
            refine hT.out.mono ?_
            rintro e w62 ⟨rfl, hk6⟩
            have hC6 : w62.rangeAt cb (co + i * 5) [.int .u8 (k.toNat : Int), .string s, .string t, .int .i64 n, .slice va vl vc] ∧ w62.cell? ⟨qa, 1, none⟩ = some (.pointer (some ⟨qc, 0, none⟩)) := ⟨range_below hx1.out hk6.out.k hkc, hk6.out.apC.cell 1⟩
            refine hK _ _ hC6 ?_
            have hst2 : Box (∃ D DB DC M1 M2, Kept w1 (ApX (HeadO ba bd bw) ⟨pa, pd, pc, pw, pq⟩ ⟨qa, qd, qc, qw, qq⟩ bd b1 b2 D M1 M2 DB M1 DC M2) w62 ∧ ApI (2 * (i + 1)) D M1 M2 DB DC) := ⟨_, _, _, _, _, hk6.out, (hI.out.stepC (by omega) _ _ _).1⟩
            clear hK K hT hC5 hk5 hk6
            try simp only [Act.put]
            refine go_calms [18, 19] 0 rfl (by kernel_rfl) (by kernel_rfl) (by kernel_rfl) hC6 ?_
            simp [nth]
            try simp only [Act.put]
            repeat (go_big_quiet_step (first | exact fun _ => rfl | rfl))
            refine quiet_any rfl (.bool false) (fun w' hw' => by
              have h1 := hw'.2
              go_simp) ?_
            simp only [Act.put, List.setIfInBounds_toArray, List.set_cons_succ, List.set_cons_zero]
            repeat (go_big_quiet_step (first | exact fun _ => rfl | rfl))
            try (refine quiet_any rfl (.bool false) (fun w' hw' => by go_simp) ?_; simp only [Act.put, List.setIfInBounds_toArray, List.set_cons_succ, List.set_cons_zero])
            refine wpQuiet_nil ?_
            refine go_done (by kernel_rfl) ?_
            clear hC6 hx1 hsl htl hk10 hI hkc o0 hki h7 h7i
            go_wp2_with fail
            exact ⟨⟨i + 1, by omega, by go_num, hst2⟩, by simp [intOf]; omega⟩
          · have hst2 : Box (∃ D DB DC M1 M2, Kept w1 (ApX (HeadO ba bd bw) ⟨pa, pd, pc, pw, pq⟩ ⟨qa, qd, qc, qw, qq⟩ bd b1 b2 D M1 M2 DB M1 DC M2) wr ∧ ApI (2 * (i + 1)) D M1 M2 DB DC) := ⟨by
              obtain ⟨D, DB, DC, M1, M2, hk, hI⟩ := hst1.out
              exact ⟨D, DB, DC, M1, M2, hk, hI.one.onward (by omega), hI.two.onward (by omega), hI.b.onward (by omega), hI.c.onward (by omega)⟩⟩
            clear hst1
            have h7i : ¬ (kk : Int) < 7 := by omega
            clear each hx hx1 hx2 hk hI hkk hsl htl
            go_wp2_with fail
            exact ⟨⟨i + 1, by omega, by go_num, hst2⟩, by simp [intOf]; omega⟩
        · have hst2 : Box (∃ D DB DC M1 M2, Kept w1 (ApX (HeadO ba bd bw) ⟨pa, pd, pc, pw, pq⟩ ⟨qa, qd, qc, qw, qq⟩ bd b1 b2 D M1 M2 DB M1 DC M2) wr ∧ ApI (2 * (i + 1)) D M1 M2 DB DC) := ⟨by
            obtain ⟨D, DB, DC, M1, M2, hk, hI⟩ := hst1.out
            exact ⟨D, DB, DC, M1, M2, hk, hI.one.onward (by omega), hI.two.onward (by omega), hI.b.onward (by omega), hI.c.onward (by omega)⟩⟩
          clear hst1
          go_wp2_with fail
          exact ⟨⟨i + 1, by omega, by go_num, hst2⟩, by simp [intOf]; omega⟩
    · obtain rfl : i = 30 := by omega
      obtain ⟨D, DB, DC, M1, M2, hk, hI⟩ := hst.out
      have d0 : wr.cell? ⟨ba, 0, none⟩ = some (.pointer (some ⟨bd, 0, none⟩)) := hk.apH.cell 0
      have hO1 := Box.mk (end_one HeadO.good hk hI)
      replace hI := Box.mk hI
      clear hk hst hA1 hA2
      go_wp2_with fail
      refine hO1.out.mono ?_
      rintro e w3 ⟨c1, rfl, hk3⟩
      have d0' : w3.cell? ⟨ba, 0, none⟩ = some (.pointer (some ⟨bd, 0, none⟩)) := hk3.out.endH.cell 0
      have hO2 := Box.mk (end_two HeadO.good hk3.out hI.out)
      clear hO1 hk3 d0
      go_wp2_with fail
      refine hO2.out.mono ?_
      rintro e w4 ⟨c2, rfl, hk4⟩
      obtain ⟨d3, v1, d4, hr1⟩ := all_reads (ba := pa) (bd := pd) (bc := pc) (bw := pw) (bq := pq) (base := 0) (half := 5) (D := DB) (M := M1) (hk4.out.cv cvReadB)
      obtain ⟨va1, vc1, rfl⟩ := hr1.shape
      have hS1 := Box.mk (end_same1 HeadO.good hk4.out hI.out.one.snd.ok.was hr1)
      clear hO2 d0' hr1 hk4
      go_wp2_with fail
      refine hS1.out.mono ?_
      rintro e w5 ⟨rfl, hk5⟩
      obtain ⟨d5, v2, d6, hr2⟩ := all_reads (ba := qa) (bd := qd) (bc := qc) (bw := qw) (bq := qq) (base := 10) (half := 10) (D := DC) (M := M2) (hk5.out.cv cvReadC)
      obtain ⟨va2, vc2, rfl⟩ := hr2.shape
      have hS2 := Box.mk (end_same2 HeadO.good hk5.out hI.out.two.snd.ok.was hr2)
      clear hS1 d3 d4 hr2 hk5
      go_wp2_with fail
      refine hS2.out.mono ?_
      rintro e w6 ⟨rfl, hk6⟩
      have hBz : Box (Below w.heap.size w w6) := ⟨hB1.out.trans (hk6.out.k.mono hB1.out.size)⟩
      clear hS2 d5 d6 hk6
      go_wp2_with fail
      go_returns
      exact ⟨rfl, hBz.out⟩
end Go.Proofs.YtoaipjpbioaneaaGreat
