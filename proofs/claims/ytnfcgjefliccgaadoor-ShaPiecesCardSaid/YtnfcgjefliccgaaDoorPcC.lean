/- Walk of the law ShaPieces: more than 20 cuts. -/
import Derived.Test.YtnfcgjefliccgaaDoorPcA
import Derived.Test.YtnfcgjefliccgaaDoorQg
namespace Go.Proofs.YtnfcgjefliccgaaDoor
open Go.RowKit

set_option maxHeartbeats 6400000 in
set_option maxRecDepth 100000 in
theorem pieces_gt (T : ByteArray) (ca : Option Addr) (L C : Nat) (w : World) (hK : KIs w) (hT : T.size ≤ 140737488351232) (hL : 20 < L) (hLC : L ≤ C)
    (hcut : 0 < L → ∃ cb co, ca = some ⟨cb, co, none⟩ ∧ cb < w.heap.size ∧ ∀ i, i < L → ∃ c : Nat, c ≤ 65535 ∧ w.cell? ⟨cb, co + i, none⟩ = some (.int .u16 (c : Int))) :
    Calls Tryd.prog 4 #[.string T, .slice ca L C] w fun e w' => e = .returned (.bool true) ∧ Below w.heap.size w w' := by
  have hH := hashes_any w hK
  replace hK := Box.mk hK
  replace hcut := Box.mk hcut
  have hz := zero_dig
  go_enter Tryd.func4, Tryd.ntmps4
  go_wp2_with fail
  refine hH.mono ?_
  rintro e w1 ⟨rfl, hb1⟩
  clear hH
  have hK1 := hK.out.below hb1 hK.out.lt
  have hN := new_any w1
  go_wp2_with fail
  refine hN.mono ?_
  rintro e w2 ⟨rfl, hD2, hb2⟩
  clear hN
  have hB2 := hb1.trans (hb2.mono hb1.size)
  have hE : Env w1.heap.size w2.heap.size w [] [] (.slice none 0 0) [] (w2.alloc (.cells zeros73 34)) :=
    ⟨hD2.below ((Below.refl _ _).alloc (Nat.le_refl _) _), DigIs.new w2, (hK1.below hb2 hK1.lt).below ((Below.refl _ _).alloc (Nat.le_refl _) _) (hK1.below hb2 hK1.lt).lt, hB2.alloc hB2.size _, by have := hD2.lt; omega, hb1.size, hB2.size, hK.out.lt, World.ownsRow_nil _ _ _ _⟩
  generalize hw3 : w2.alloc (.cells zeros73 34) = w3 at hE
  generalize w1.heap.size = bd at hE ⊢
  generalize hbz : w2.heap.size = bz at hE
  replace hE := Box.mk hE
  clear hb1 hK1 hD2 hb2 hB2
  go_wp2_with fail
  all_goals
    go_loopw [6, 8, 22] (fun s6 s8 s22 wr => ∃ (i a : Nat) (ps : List ByteArray), i ≤ L ∧ i ≤ 20 ∧ s22 = .int .i64 i ∧ s6 = .int .i64 a ∧ a ≤ T.size ∧ Box (ps.length = i) ∧ Box (flat ps = tk T a) ∧ Box (Env bd bz w (tk T a) (tk T a) s8 ps wr)) (fun _ _ s22 _ => L - (intOf s22).toNat)
    case atStart => exact ⟨0, 0, [], by omega, by omega, rfl, rfl, by omega, ⟨rfl⟩, ⟨rfl⟩, hE⟩
    case round =>
      clear hE hw3 hbz
      obtain ⟨i, a, ps, hi, hi20, rfl, rfl, ha, hpl, hfl, hE⟩ := hrel
      by_cases hlt : i < L ∧ i < 20
      · obtain ⟨q1, q2⟩ := hlt
        obtain ⟨cb, co, rfl, hcb, hcs⟩ := hcut.out (by omega)
        obtain ⟨c, hc, hcell⟩ := hcs i q1
        have c0 : wr.cell? ⟨cb, co + i, none⟩ = some (.int .u16 (c : Int)) := by rw [hE.out.b.cell (p := ⟨cb, co + i, none⟩) hcb]; exact hcell
        obtain ⟨m, hm⟩ : ∃ m, c % (T.size - a + 1) = m := ⟨_, rfl⟩
        have hmle : a + m ≤ T.size := by have := Nat.mod_lt c (show 0 < T.size - a + 1 by omega); omega
        have hmt : (c : Int).tmod ((T.size : Int) - (a : Int) + 1) = (m : Int) := by
          rw [Int.tmod_eq_emod_of_nonneg (by omega), show (T.size : Int) - (a : Int) + 1 = ((T.size - a + 1 : Nat) : Int) by omega]
          rw [← hm]; exact (Int.natCast_emod _ _).symm
        replace hm := Box.mk hm
        obtain ⟨t, ht⟩ : ∃ t, T.extract a (a + m) = t := ⟨_, rfl⟩
        have hstep : tk T a ++ t.data.toList = tk T (a + m) := by rw [← ht]; exact tk_step T a m
        have hts : (tk T a).length + t.size ≤ 4611686018427387904 := by rw [← data_len, ← List.length_append, hstep, tk_len T _ hmle]; omega
        have hA1 := hE.out.add_d t hts
        rw [hstep] at hA1
        replace hstep := Box.mk hstep
        replace hts := Box.mk hts
        clear hcs hcell
        go_wp2_with fail
        refine hA1.mono ?_
        rintro e w4 ⟨rfl, hE4⟩
        have hA2 := hE4.add_z t hts.out
        rw [hstep.out] at hA2
        clear hE4 hA1
        go_wp2_with fail
        refine hA2.mono ?_
        rintro e w5 ⟨rfl, hE5⟩
        clear hA2
        have hE5' := Box.mk (hE5.alloc (.cells #[Value.string t] 9))
        have hnw : Box ((w5.alloc (.cells #[Value.string t] 9)).cell? ⟨w5.heap.size, 0, none⟩ = some (.string t)) := ⟨by rw [World.cell?_alloc_at _ _ _ _ rfl]; rfl⟩
        have hps : Box (ps.length ≤ 100) := ⟨by have := hpl.out; omega⟩
        clear hE5 hE c0
        go_wp2_with (refine Env.wpList_part rfl (.tmp 49) (.tmp 56) rfl rfl hE5'.out w5.heap.size t rfl hnw.out hps.out ?_; intro v6 w6 hE6; have hC6 := hE6.copy; clear hE6 hE5' hnw)
        refine hC6.mono ?_
        rintro e w7 ⟨bo, rfl, hE7⟩
        clear hC6
        obtain ⟨t0, ht0⟩ : ∃ t0, T.extract 0 (a + m) = t0 := ⟨_, rfl⟩
        have hf0 : flat [t0] = tk T (a + m) := by rw [flat_one, ← ht0]; have := tk_step T 0 (a + m); rw [Nat.zero_add] at this; exact this
        obtain ⟨H1, hH1⟩ : ∃ H1, hashOf (tk T (a + m)) = H1 := ⟨_, rfl⟩
        have hH1' := hH1
        rw [← hf0] at hH1'
        have hl1 : (tk T (a + m)).length = a + m := tk_len T _ hmle
        have hb1 : (tk T (a + m)).length ≤ 1152921504606846976 := by omega
        have hb1' := hb1
        rw [← hf0] at hb1'
        replace hH1 := Box.mk hH1
        replace hH1' := Box.mk hH1'
        replace hb1 := Box.mk hb1
        replace hb1' := Box.mk hb1'
        replace hf0 := Box.mk hf0
        have hLd := hE7.len_d
        rw [hl1] at hLd
        replace hl1 := Box.mk hl1
        replace hE7 := Box.mk hE7
        clear hLd
        obtain ⟨H2, hH2⟩ : ∃ H2, hashOf (tk T (a + m) ++ more.data.toList) = H2 := ⟨_, rfl⟩
        have hf2 : flat [t0, more] = tk T (a + m) ++ more.data.toList := by rw [show flat [t0, more] = flat [t0] ++ more.data.toList by simp [flat], hf0.out]
        have hH2' := hH2
        rw [← hf2] at hH2'
        have hl2 : (tk T (a + m) ++ more.data.toList).length = a + m + 4 := by rw [List.length_append, hl1.out]; rfl
        have hb2 : (tk T (a + m) ++ more.data.toList).length ≤ 1152921504606846976 := by omega
        have hb2' := hb2
        rw [← hf2] at hb2'
        replace hH2 := Box.mk hH2
        replace hH2' := Box.mk hH2'
        replace hb2 := Box.mk hb2
        replace hb2' := Box.mk hb2'
        replace hl2 := Box.mk hl2
        clear hf2
        go_wp2_with fail
        refine region_go (C := fun _ => True) rfl ?_
        refine go_calms [0, 1, 2, 3, 5, 6, 7] 11 rfl (by kernel_rfl) (by kernel_rfl) (by kernel_rfl) True.intro ?_
        simp [nth]
        repeat (go_big_quiet_step (first | exact fun _ => rfl | rfl))
        refine wpQuiet_nil ?_
        have hEd := Box.mk hE7.out.drew
        generalize w7.drew = wd at hEd ⊢
        clear hE7
        refine go_fork 4 8 (by kernel_rfl) (goOp_wp 4 rfl rfl (fun K hK => ?_)) (goOp_wp 8 rfl rfl (fun K hK => ?_))
        · go_simp
          refine (hEd.out.sum_d H1 hH1 hb1.out).mono ?_
          rintro e w8 ⟨rfl, hE8, _⟩
          refine hK _ _ True.intro ?_
          clear hK K hEd
          refine go_forced 8 (by kernel_rfl) (goOp_wp 8 rfl rfl (fun K hK => ?_))
          go_simp
          refine hK _ _ True.intro ?_
          clear hK K
          refine go_forced 9 (by kernel_rfl) (goOp_wp 9 rfl rfl (fun K hK => ?_))
          go_simp
          refine (hE8.out.sum_new t0 H1 hH1' hb1'.out).mono ?_
          rintro e w9 ⟨rfl, hE9⟩
          refine hK _ _ True.intro ?_
          clear hK K hE8
          refine go_calms [10, 11, 12, 13, 15] 3 rfl (by kernel_rfl) (by kernel_rfl) (by kernel_rfl) True.intro ?_
          simp [nth]
          repeat (go_big_quiet_step (first | exact fun _ => rfl | rfl))
          refine wpQuiet_nil ?_
          refine go_forced 14 (by kernel_rfl) (goOp_wp 14 rfl rfl (fun K hK => ?_))
          go_simp
          have hLd := hE9.out.len_d
          rw [hl1.out] at hLd
          refine hLd.mono ?_
          rintro e w' ⟨rfl, rfl⟩
          clear hLd
          refine hK _ _ True.intro ?_
          clear hK K
          refine go_calms [16, 17] 0 rfl (by kernel_rfl) (by kernel_rfl) (by kernel_rfl) True.intro ?_
          simp [nth]
          repeat (go_big_quiet_step (first | exact fun _ => rfl | rfl))
          refine wpQuiet_nil ?_
          refine go_done (by kernel_rfl) ?_
          go_wp2_with fail
          have hA3 := hE9.out.add_o more (by rw [hl1.out]; have : more.size = 4 := rfl; omega)
          rw [show (Value.string more) = Value.string { data := #[109, 111, 114, 101] } from rfl] at hA3
          refine hA3.mono ?_
          rintro e w10 ⟨rfl, hE10⟩
          clear hA3 hE9
          replace hE10 := Box.mk hE10
          go_wp2_with fail
          refine region_go (C := fun _ => True) rfl ?_
          refine go_calms [0, 2, 3, 4] 11 rfl (by kernel_rfl) (by kernel_rfl) (by kernel_rfl) True.intro ?_
          simp [nth]
          repeat (go_big_quiet_step (first | exact fun _ => rfl | rfl))
          refine wpQuiet_nil ?_
          have hEf := Box.mk hE10.out.drew
          generalize w10.drew = wf at hEf ⊢
          clear hE10
          refine go_fork 1 5 (by kernel_rfl) (goOp_wp 1 rfl rfl (fun K hK => ?_)) (goOp_wp 5 rfl rfl (fun K hK => ?_))
          · go_simp
            refine (hEf.out.sum_o H2 hH2 hb2.out).mono ?_
            rintro e w12 ⟨rfl, hE12, _⟩
            refine hK _ _ True.intro ?_
            clear hK K hEf
            refine go_forced 5 (by kernel_rfl) (goOp_wp 5 rfl rfl (fun K hK => ?_))
            go_simp
            refine hK _ _ True.intro ?_
            clear hK K
            refine go_forced 6 (by kernel_rfl) (goOp_wp 6 rfl rfl (fun K hK => ?_))
            go_simp
            refine (hE12.out.sum_new2 t0 more H2 hH2' hb2'.out).mono ?_
            rintro e w13 ⟨rfl, hE13⟩
            refine hK _ _ True.intro ?_
            clear hK K hE12
            refine go_calms [7, 8, 9, 11, 12] 3 rfl (by kernel_rfl) (by kernel_rfl) (by kernel_rfl) True.intro ?_
            simp [nth]
            repeat (go_big_quiet_step (first | exact fun _ => rfl | rfl))
            refine wpQuiet_nil ?_
            refine go_forced 10 (by kernel_rfl) (goOp_wp 10 rfl rfl (fun K hK => ?_))
            go_simp
            have hLo := hE13.out.len_o
            rw [hl2.out] at hLo
            refine hLo.mono ?_
            rintro e w' ⟨rfl, rfl⟩
            clear hLo
            refine hK _ _ True.intro ?_
            clear hK K
            refine go_calms [13, 14] 0 rfl (by kernel_rfl) (by kernel_rfl) (by kernel_rfl) True.intro ?_
            simp [nth]
            repeat (go_big_quiet_step (first | exact fun _ => rfl | rfl))
            refine wpQuiet_nil ?_
            refine go_done (by kernel_rfl) ?_
            go_wp2_with fail
            have hend := hE13.out.e
            exact ⟨⟨i + 1, a + m, ps ++ [t], by omega, by omega, by go_num, by go_num, hmle, ⟨by rw [List.length_append, hpl.out]; rfl⟩, ⟨by rw [flat_app, hfl.out, flat_one, hstep.out]⟩, ⟨hend⟩⟩, by simp [intOf]; omega⟩
          · go_simp
            have hEg := Box.mk (hEf.out.alloc (.cells #[.string t0, .string more] 9))
            refine hK _ _ True.intro ?_
            clear hK K
            refine go_forced 1 (by kernel_rfl) (goOp_wp 1 rfl rfl (fun K hK => ?_))
            go_simp
            refine (hEg.out.sum_o H2 hH2 hb2.out).mono ?_
            rintro e w12 ⟨rfl, hE12, hb12⟩
            refine hK _ _ True.intro ?_
            clear hK K hEg
            refine go_forced 6 (by kernel_rfl) (goOp_wp 6 rfl rfl (fun K hK => ?_))
            go_simp
            refine (hE12.out.sum_old2 t0 more hb12 H2 hH2' hb2'.out).mono ?_
            rintro e w13 ⟨rfl, hE13⟩
            refine hK _ _ True.intro ?_
            clear hK K hE12 hb12 hEf
            refine go_calms [7, 8, 9, 11, 12] 3 rfl (by kernel_rfl) (by kernel_rfl) (by kernel_rfl) True.intro ?_
            simp [nth]
            repeat (go_big_quiet_step (first | exact fun _ => rfl | rfl))
            refine wpQuiet_nil ?_
            refine go_forced 10 (by kernel_rfl) (goOp_wp 10 rfl rfl (fun K hK => ?_))
            go_simp
            have hLo := hE13.out.len_o
            rw [hl2.out] at hLo
            refine hLo.mono ?_
            rintro e w' ⟨rfl, rfl⟩
            clear hLo
            refine hK _ _ True.intro ?_
            clear hK K
            refine go_calms [13, 14] 0 rfl (by kernel_rfl) (by kernel_rfl) (by kernel_rfl) True.intro ?_
            simp [nth]
            repeat (go_big_quiet_step (first | exact fun _ => rfl | rfl))
            refine wpQuiet_nil ?_
            refine go_done (by kernel_rfl) ?_
            go_wp2_with fail
            have hend := hE13.out.e
            exact ⟨⟨i + 1, a + m, ps ++ [t], by omega, by omega, by go_num, by go_num, hmle, ⟨by rw [List.length_append, hpl.out]; rfl⟩, ⟨by rw [flat_app, hfl.out, flat_one, hstep.out]⟩, ⟨hend⟩⟩, by simp [intOf]; omega⟩
        · go_simp
          have hEa := Box.mk (hEd.out.alloc (.cells #[.string t0] 9))
          refine hK _ _ True.intro ?_
          clear hK K
          refine go_forced 4 (by kernel_rfl) (goOp_wp 4 rfl rfl (fun K hK => ?_))
          go_simp
          refine (hEa.out.sum_d H1 hH1 hb1.out).mono ?_
          rintro e w8 ⟨rfl, hE8, hb8⟩
          refine hK _ _ True.intro ?_
          clear hK K hEa
          refine go_forced 9 (by kernel_rfl) (goOp_wp 9 rfl rfl (fun K hK => ?_))
          go_simp
          refine (hE8.out.sum_old t0 hb8 H1 hH1' hb1'.out).mono ?_
          rintro e w9 ⟨rfl, hE9⟩
          refine hK _ _ True.intro ?_
          clear hK K hE8 hb8 hEd
          refine go_calms [10, 11, 12, 13, 15] 3 rfl (by kernel_rfl) (by kernel_rfl) (by kernel_rfl) True.intro ?_
          simp [nth]
          repeat (go_big_quiet_step (first | exact fun _ => rfl | rfl))
          refine wpQuiet_nil ?_
          refine go_forced 14 (by kernel_rfl) (goOp_wp 14 rfl rfl (fun K hK => ?_))
          go_simp
          have hLd := hE9.out.len_d
          rw [hl1.out] at hLd
          refine hLd.mono ?_
          rintro e w' ⟨rfl, rfl⟩
          clear hLd
          refine hK _ _ True.intro ?_
          clear hK K
          refine go_calms [16, 17] 0 rfl (by kernel_rfl) (by kernel_rfl) (by kernel_rfl) True.intro ?_
          simp [nth]
          repeat (go_big_quiet_step (first | exact fun _ => rfl | rfl))
          refine wpQuiet_nil ?_
          refine go_done (by kernel_rfl) ?_
          go_wp2_with fail
          have hA3 := hE9.out.add_o more (by rw [hl1.out]; have : more.size = 4 := rfl; omega)
          rw [show (Value.string more) = Value.string { data := #[109, 111, 114, 101] } from rfl] at hA3
          refine hA3.mono ?_
          rintro e w10 ⟨rfl, hE10⟩
          clear hA3 hE9
          replace hE10 := Box.mk hE10
          go_wp2_with fail
          refine region_go (C := fun _ => True) rfl ?_
          refine go_calms [0, 2, 3, 4] 11 rfl (by kernel_rfl) (by kernel_rfl) (by kernel_rfl) True.intro ?_
          simp [nth]
          repeat (go_big_quiet_step (first | exact fun _ => rfl | rfl))
          refine wpQuiet_nil ?_
          have hEf := Box.mk hE10.out.drew
          generalize w10.drew = wf at hEf ⊢
          clear hE10
          refine go_fork 1 5 (by kernel_rfl) (goOp_wp 1 rfl rfl (fun K hK => ?_)) (goOp_wp 5 rfl rfl (fun K hK => ?_))
          · go_simp
            refine (hEf.out.sum_o H2 hH2 hb2.out).mono ?_
            rintro e w12 ⟨rfl, hE12, _⟩
            refine hK _ _ True.intro ?_
            clear hK K hEf
            refine go_forced 5 (by kernel_rfl) (goOp_wp 5 rfl rfl (fun K hK => ?_))
            go_simp
            refine hK _ _ True.intro ?_
            clear hK K
            refine go_forced 6 (by kernel_rfl) (goOp_wp 6 rfl rfl (fun K hK => ?_))
            go_simp
            refine (hE12.out.sum_new2 t0 more H2 hH2' hb2'.out).mono ?_
            rintro e w13 ⟨rfl, hE13⟩
            refine hK _ _ True.intro ?_
            clear hK K hE12
            refine go_calms [7, 8, 9, 11, 12] 3 rfl (by kernel_rfl) (by kernel_rfl) (by kernel_rfl) True.intro ?_
            simp [nth]
            repeat (go_big_quiet_step (first | exact fun _ => rfl | rfl))
            refine wpQuiet_nil ?_
            refine go_forced 10 (by kernel_rfl) (goOp_wp 10 rfl rfl (fun K hK => ?_))
            go_simp
            have hLo := hE13.out.len_o
            rw [hl2.out] at hLo
            refine hLo.mono ?_
            rintro e w' ⟨rfl, rfl⟩
            clear hLo
            refine hK _ _ True.intro ?_
            clear hK K
            refine go_calms [13, 14] 0 rfl (by kernel_rfl) (by kernel_rfl) (by kernel_rfl) True.intro ?_
            simp [nth]
            repeat (go_big_quiet_step (first | exact fun _ => rfl | rfl))
            refine wpQuiet_nil ?_
            refine go_done (by kernel_rfl) ?_
            go_wp2_with fail
            have hend := hE13.out.e
            exact ⟨⟨i + 1, a + m, ps ++ [t], by omega, by omega, by go_num, by go_num, hmle, ⟨by rw [List.length_append, hpl.out]; rfl⟩, ⟨by rw [flat_app, hfl.out, flat_one, hstep.out]⟩, ⟨hend⟩⟩, by simp [intOf]; omega⟩
          · go_simp
            have hEg := Box.mk (hEf.out.alloc (.cells #[.string t0, .string more] 9))
            refine hK _ _ True.intro ?_
            clear hK K
            refine go_forced 1 (by kernel_rfl) (goOp_wp 1 rfl rfl (fun K hK => ?_))
            go_simp
            refine (hEg.out.sum_o H2 hH2 hb2.out).mono ?_
            rintro e w12 ⟨rfl, hE12, hb12⟩
            refine hK _ _ True.intro ?_
            clear hK K hEg
            refine go_forced 6 (by kernel_rfl) (goOp_wp 6 rfl rfl (fun K hK => ?_))
            go_simp
            refine (hE12.out.sum_old2 t0 more hb12 H2 hH2' hb2'.out).mono ?_
            rintro e w13 ⟨rfl, hE13⟩
            refine hK _ _ True.intro ?_
            clear hK K hE12 hb12 hEf
            refine go_calms [7, 8, 9, 11, 12] 3 rfl (by kernel_rfl) (by kernel_rfl) (by kernel_rfl) True.intro ?_
            simp [nth]
            repeat (go_big_quiet_step (first | exact fun _ => rfl | rfl))
            refine wpQuiet_nil ?_
            refine go_forced 10 (by kernel_rfl) (goOp_wp 10 rfl rfl (fun K hK => ?_))
            go_simp
            have hLo := hE13.out.len_o
            rw [hl2.out] at hLo
            refine hLo.mono ?_
            rintro e w' ⟨rfl, rfl⟩
            clear hLo
            refine hK _ _ True.intro ?_
            clear hK K
            refine go_calms [13, 14] 0 rfl (by kernel_rfl) (by kernel_rfl) (by kernel_rfl) True.intro ?_
            simp [nth]
            repeat (go_big_quiet_step (first | exact fun _ => rfl | rfl))
            refine wpQuiet_nil ?_
            refine go_done (by kernel_rfl) ?_
            go_wp2_with fail
            have hend := hE13.out.e
            exact ⟨⟨i + 1, a + m, ps ++ [t], by omega, by omega, by go_num, by go_num, hmle, ⟨by rw [List.length_append, hpl.out]; rfl⟩, ⟨by rw [flat_app, hfl.out, flat_one, hstep.out]⟩, ⟨hend⟩⟩, by simp [intOf]; omega⟩
      · have hiL : ¬ i < 20 := by omega
        obtain ⟨t, ht⟩ : ∃ t, T.extract a T.size = t := ⟨_, rfl⟩
        obtain ⟨F, hF⟩ : ∃ F, T.data.toList = F := ⟨_, rfl⟩
        have hFl : F.length = T.size := by rw [← hF, data_len]
        have hstep : tk T a ++ t.data.toList = F := by rw [← ht, rest_data, ← hF, tk, List.take_append_drop]
        have hts : (tk T a).length + t.size ≤ 4611686018427387904 := by rw [← data_len, ← List.length_append, hstep]; omega
        obtain ⟨H, hH⟩ : ∃ H, hashOf F = H := ⟨_, rfl⟩
        have hH1 : hashOf (flat [T]) = H := by rw [flat_one, hF, hH]
        have hb1 : (flat [T]).length ≤ 1152921504606846976 := by rw [flat_one, hF]; omega
        have hfp : flat (ps ++ [t]) = F := by rw [flat_app, hfl.out, flat_one, hstep]
        have hHp : hashOf (flat (ps ++ [t])) = H := by rw [hfp, hH]
        have hbp : (flat (ps ++ [t])).length ≤ 1152921504606846976 := by rw [hfp]; omega
        have hbF : F.length ≤ 1152921504606846976 := by omega
        have hps1 : (ps ++ [t]).length ≤ 100 := by have := hpl.out; rw [List.length_append, List.length_singleton]; omega
        have hA1 := hE.out.add_d t hts
        rw [hstep] at hA1
        replace hstep := Box.mk hstep
        replace hts := Box.mk hts
        replace hF := Box.mk hF
        replace hFl := Box.mk hFl
        replace hH := Box.mk hH
        replace hH1 := Box.mk hH1
        replace hb1 := Box.mk hb1
        replace hfp := Box.mk hfp
        replace hHp := Box.mk hHp
        replace hbp := Box.mk hbp
        replace hbF := Box.mk hbF
        replace hps1 := Box.mk hps1
        go_wp2_with fail
        refine hA1.mono ?_
        rintro e w4 ⟨rfl, hE4⟩
        have hA2 := hE4.add_z t hts.out
        rw [hstep.out] at hA2
        clear hE4 hA1
        go_wp2_with fail
        refine hA2.mono ?_
        rintro e w5 ⟨rfl, hE5⟩
        clear hA2
        have hE5' := Box.mk (hE5.alloc (.cells #[Value.string t] 9))
        have hnw : Box ((w5.alloc (.cells #[Value.string t] 9)).cell? ⟨w5.heap.size, 0, none⟩ = some (.string t)) := ⟨by rw [World.cell?_alloc_at _ _ _ _ rfl]; rfl⟩
        have hps : Box (ps.length ≤ 100) := ⟨by have := hpl.out; omega⟩
        clear hE5 hE
        go_wp2_with (refine Env.wpList_part rfl (.tmp 108) (.tmp 112) rfl rfl hE5'.out w5.heap.size t rfl hnw.out hps.out ?_; intro v6 w6 hE6; replace hE6 := Box.mk hE6; clear hE5' hnw)
        refine (hE6.out.sumd H hH hbF.out).mono ?_
        rintro e w7 ⟨rfl, hE7⟩
        clear hE6
        go_wp2_with fail
        refine (hE7.out.sumnew T H hH1 hb1.out).mono ?_
        rintro e w8 ⟨rfl, hE8⟩
        clear hE7
        go_wp2_with fail
        refine (hE8.out.sumd H hH hbF.out).mono ?_
        rintro e w9 ⟨rfl, hE9⟩
        clear hE8
        go_wp2_with fail
        refine (hE9.out.sumps H hHp hbp.out hps1.out).mono ?_
        rintro e w10 ⟨rfl, hE10⟩
        clear hE9
        go_wp2_with fail
        have hLd := len_some bd F w10 hE10.out.d
        rw [hFl.out] at hLd
        refine hLd.mono ?_
        rintro e w' ⟨rfl, rfl⟩
        clear hLd
        go_wp2_with fail
        refine (hE10.out.sumz H hH hbF.out).mono ?_
        rintro e w11 ⟨rfl, hE11⟩
        clear hE10
        go_wp2_with fail
        refine (hE11.out.sumd H hH hbF.out).mono ?_
        rintro e w12 ⟨rfl, hE12⟩
        clear hE11
        go_wp2_with fail
        go_ret
        exact ⟨rfl, hE12.out.b⟩
end Go.Proofs.YtnfcgjefliccgaaDoor
