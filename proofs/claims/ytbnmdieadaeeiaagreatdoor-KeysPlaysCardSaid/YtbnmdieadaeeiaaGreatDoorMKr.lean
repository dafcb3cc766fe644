/- Walk of the law KeysPlays. -/
import Derived.Test.YtbnmdieadaeeiaaGreatDoorMKd
namespace Go.Proofs.YtbnmdieadaeeiaaGreatDoor
open Go Go.RowKit

set_option maxHeartbeats 3200000 in
set_option maxRecDepth 100000 in
theorem plays6_bad (s : ByteArray) (n : Int) (a : Option Addr) (L c : Nat) (w : World) (hK : KIs w) (hn : n < 0 ∨ 4 < n) :
    Calls Tryz.prog 3 #[.string s, .int .i64 n, .slice a L c] w fun e w' => e = .returned (.bool true) ∧ Below w.heap.size w w' := by
  have h0 := signs_key w hK
  have hN := fun w1 => new_no s n w1 hn
  have hM := fun w1 => r6new_no s n w1 hn
  have hnot : ∀ (x : Bool) (w : World), (Op.unary .not (.bool x)).run Tryz.prog w = .ok (.bool (!x)) w := fun _ _ => rfl
  clear hn
  go_enter Tryz.func3, Tryz.ntmps3
  go_wp2_with fail
  refine h0.mono ?_
  rintro e w1 ⟨rfl, hb1⟩
  replace hb1 := Box.mk hb1
  have hF := hN w1
  have hG := hM w1
  clear h0 hN hM
  go_wp2_with fail
  refine hF.mono ?_
  rintro e w2 ⟨rfl, rfl⟩
  clear hF
  go_wp2_with fail
  refine hG.mono ?_
  rintro e w3 ⟨rfl, rfl⟩
  clear hG
  go_wp2_with fail
  go_ret
  exact ⟨rfl, hb1.out⟩

/-- A call of one of the two, in a region's class. -/
theorem Thr.cls {w0 w : World} {bk bw : Nat} {s : ByteArray} {h u v bo : Nat} {cs : List Value} (t : Thr w0 w bk bw s h u v bo cs) {f : FuncId} {args : Array Value} {r : Value}
    (hC : Calls Tryz.prog f args w fun e w' => e = .returned r ∧ Two w0 w' bk bw s h u v ∧ Pk.Chg (fun i => i = bk ∨ i = bw) w w') : Calls Tryz.prog f args w fun e w' => e = .returned r ∧ Thr w0 w' bk bw s h u v bo cs :=
  (t.to (E := fun e => e = .returned r) hC).mono fun _ _ h => h
theorem Thr.same {w0 w : World} {bk bw : Nat} {s : ByteArray} {h u v bo : Nat} {cs : List Value} (t : Thr w0 w bk bw s h u v bo cs) {f : FuncId} {args : Array Value} {r : Value}
    (hC : Calls Tryz.prog f args w fun e w' => e = .returned r ∧ w' = w) : Calls Tryz.prog f args w fun e w' => e = .returned r ∧ Thr w0 w' bk bw s h u v bo cs :=
  hC.mono fun _ _ ⟨he, hw⟩ => ⟨he, hw ▸ t⟩

set_option maxHeartbeats 6400000 in
set_option maxRecDepth 100000 in
theorem plays6_fit (s : ByteArray) (h : Nat) (a : Option Addr) (L cap : Nat) (w : World) (hK : KIs w) (hh : h ≤ 4) (hs : s.size ≤ 140737488351232) (hO : Ops6 w a L) (hcap : L ≤ cap) (hm : cap ≤ maxLen) :
    Calls Tryz.prog 3 #[.string s, .int .i64 (h : Int), .slice a L cap] w fun e w' => e = .returned (.bool true) ∧ Below w.heap.size w w' := by
  have h0 := signs_key w hK
  have hNew := fun w1 => new_ok s h w1 hh
  have hRef := fun w1 => r6new_ok s h w1 hh hs
  have hnot : ∀ (x : Bool) (w : World), (Op.unary .not (.bool x)).run Tryz.prog w = .ok (.bool (!x)) w := fun _ _ => rfl
  obtain ⟨n, hn⟩ : ∃ n, min L 20 = n := ⟨_, rfl⟩
  have hmin : min (L : Int) 20 = (n : Int) := by omega
  have hnl : n ≤ L := by omega
  have hcap63 : cap ≤ 9223372036854775807 := by unfold maxLen at hm; omega
  have hKB := Box.mk hK
  replace hO := Box.mk hO
  replace hNew := Box.mk hNew
  replace hRef := Box.mk hRef
  replace hh := Box.mk hh
  replace hs := Box.mk hs
  clear hK hm hn
  go_enter Tryz.func3, Tryz.ntmps3
  go_wp2_with fail
  refine h0.mono ?_
  clear h0
  rintro e w1 ⟨rfl, hb1⟩
  have hF := hNew.out w1
  have hK1 := Box.mk (hKB.out.below hb1 hKB.out.lt)
  replace hb1 := Box.mk hb1
  clear hNew
  go_wp2_with fail
  refine hF.mono ?_
  clear hF
  rintro e w2 ⟨rfl, k2, hb2⟩
  have hF := hRef.out w2
  have hB2 : Box (Below w.heap.size w w2) := ⟨mono_bel hb1.out hb2 (Nat.le_refl _)⟩
  have hK2 := Box.mk (hK1.out.below hb2 hK1.out.lt)
  have hl1 : Box (w.heap.size ≤ w1.heap.size) := ⟨hb1.out.size⟩
  obtain ⟨bk, hbk⟩ : ∃ b, w1.heap.size = b := ⟨_, rfl⟩
  rw [hbk] at k2 hl1 ⊢
  replace k2 := Box.mk k2
  clear hb1 hb2 hK1 hbk hRef
  go_wp2_with fail
  refine hF.mono ?_
  clear hF
  rintro e w3 ⟨rfl, k3, hb3⟩
  have hT : Box (Two w w3 bk w2.heap.size s h 0 0) := ⟨⟨⟨_, k2.out.here hb3⟩, ⟨k3, hh.out⟩, Nat.zero_le _, Nat.zero_le _, hK2.out.below hb3 hK2.out.lt, mono_bel hB2.out hb3 (Nat.le_refl _), hl1.out, hB2.out.size⟩⟩
  obtain ⟨bw, hbw⟩ : ∃ b, w2.heap.size = b := ⟨_, rfl⟩
  rw [hbw] at hT ⊢
  clear k2 k3 hb3 hB2 hK2 hl1 hbw
  go_wp2_with fail
  clear hmin
  go_loopw [11, 13, 14, 15, 16, 17, 54] (fun v11 _ _ _ _ _ q wr => ∃ (i u : Nat) (z : ByteArray), i ≤ n ∧ v11 = .string z ∧ q = .int .i64 (i : Int) ∧ Box (Two w wr bk bw s h u u)) (fun _ _ _ _ _ _ q _ => n - (intOf q).toNat)
  case atStart => exact ⟨0, 0, _, by omega, rfl, rfl, hT⟩
  case round =>
    clear hT
    obtain ⟨i, u, z, hi, rfl, rfl, hT⟩ := hrel
    by_cases hlt : i < n
    · obtain ⟨cb, co, rfl, hcb, hops⟩ := hO.out (by omega)
      obtain ⟨k, x, m, hk, hx, d0, d1, d2⟩ := hops i (by omega)
      rw [← hT.out.bel.cell (p := ⟨cb, _, none⟩) hcb] at d0 d1 d2
      have hT2 := Box.mk (hT.out.with_ [.int .u8 (k : Int), .string x, .int .i64 m])
      obtain ⟨wn, hwn⟩ : ∃ wn, wr.alloc (.cells [Value.int .u8 (k : Int), .string x, .int .i64 m].toArray 32) = wn := ⟨_, rfl⟩
      obtain ⟨bo, hbo⟩ : ∃ bo, wr.heap.size = bo := ⟨_, rfl⟩
      rw [hwn, hbo] at hT2
      have e0 : wn.cell? ⟨bo, 0, none⟩ = some (.int .u8 (k : Int)) := hT2.out.blk.cell 0
      have e1 : wn.cell? ⟨bo, 1, none⟩ = some (.string x) := hT2.out.blk.cell 1
      have e2 : wn.cell? ⟨bo, 2, none⟩ = some (.int .i64 m) := hT2.out.blk.cell 2
      replace hx := Box.mk hx
      clear hops
      by_cases q2 : k % 4 = 2
      · have hmod : (k : Int).tmod 4 = 2 := by rw [Int.tmod_eq_emod_of_nonneg (by omega)]; omega
        have hF := Box.mk (hT2.out.to (E := fun e => e = .returned (.tuple #[])) (two_skip w wn bk bw s h u u m hT2.out.two))
        go_wp2_with fail
        refine hF.out.mono ?_
        rintro e w5 ⟨rfl, hT3⟩
        have f2 : w5.cell? ⟨bo, 2, none⟩ = some (.int .i64 m) := hT3.blk.cell 2
        replace hF := Box.mk (hT3.to (E := fun e => e = .returned (.tuple #[])) (two_rskip w w5 bk bw s h _ u m hT3.two))
        clear hT2 hT hT3 d0 d1 d2 e0 e1 e2
        go_wp2_with fail
        refine hF.out.mono ?_
        rintro e w6 ⟨rfl, hT3⟩
        obtain ⟨u', hu'⟩ : ∃ u', skipN u m h = u' := ⟨_, rfl⟩
        rw [hu'] at hT3
        replace hT3 := Box.mk hT3
        clear hF f2 hu'
        have hd := hT3.out.drew
        go_wp2_with fail
        refine region_quiet (fun w' => Thr w w' bk bw s h u' u' bo [.int .u8 (k : Int), .string x, .int .i64 m]) (by kernel_rfl) (by kernel_rfl) hd ?_
        repeat (go_big_quiet_step (first | exact fun _ => rfl | rfl))
        refine quiet_call rfl (.int .i64 ((u' : Nat) : Int)) (fun w' hw' => hw'.same (two_used w w' bk bw s h _ _ hw'.two)) (fun w' _ => by go_simp) ?_
        simp only [Act.put, List.setIfInBounds_toArray, List.set_cons_succ, List.set_cons_zero]
        repeat (go_big_quiet_step (first | exact fun _ => rfl | rfl))
        refine quiet_val rfl (.int .i64 ((u' : Nat) : Int)) (fun w' hw' => by have h3 := hw'.two.cell3; go_simp) ?_
        simp only [Act.put, List.setIfInBounds_toArray, List.set_cons_succ, List.set_cons_zero]
        repeat (go_big_quiet_step (first | exact fun _ => rfl | rfl))
        refine quiet_call rfl (.int .i64 ((2 ^ h - u' : Nat) : Int)) (fun w' hw' => hw'.same (two_left w w' bk bw s h _ _ hw'.two)) (fun w' _ => by go_simp) ?_
        simp only [Act.put, List.setIfInBounds_toArray, List.set_cons_succ, List.set_cons_zero]
        repeat (go_big_quiet_step (first | exact fun _ => rfl | rfl))
        refine quiet_call rfl (.int .i64 ((2 ^ h - u' : Nat) : Int)) (fun w' hw' => hw'.cls (two_rleft w w' bk bw s h _ _ hw'.two)) (fun w' _ => by go_simp) ?_
        simp only [Act.put, List.setIfInBounds_toArray, List.set_cons_succ, List.set_cons_zero]
        repeat (go_big_quiet_step (first | exact fun _ => rfl | rfl))
        refine wpQuiet_nil ?_
        clear hd hT3
        intro w7 hw7
        replace hw7 := Box.mk hw7.two
        go_wp2_with fail
        exact ⟨⟨i + 1, u', _, by omega, rfl, by go_num, hw7⟩, by simp [intOf]; omega⟩
      by_cases q3 : k % 4 = 3
      · have hmod : (k : Int).tmod 4 = 3 := by rw [Int.tmod_eq_emod_of_nonneg (by omega)]; omega
        have hd := hT2.out.drew
        obtain ⟨E, hE⟩ : ∃ E, verE (keyID s h) x z = E := ⟨_, rfl⟩
        have hE' := Box.mk hE
        obtain ⟨y, hy⟩ : ∃ y, keyID s h = y := ⟨_, rfl⟩
        have hy' := Box.mk hy
        rw [hy] at hE
        replace hE := Box.mk hE
        clear hE' hy
        go_wp2_with fail
        refine region_quiet (fun w' => Thr w w' bk bw s h u u bo [.int .u8 (k : Int), .string x, .int .i64 m]) (by kernel_rfl) (by kernel_rfl) hd ?_
        repeat (go_big_quiet_step (first | exact fun _ => rfl | rfl))
        refine quiet_call rfl (.string y) (fun w' hw' => by rw [← hy'.out]; exact hw'.cls (two_rid w w' bk bw s h _ _ hw'.two)) (fun w' _ => by go_simp) ?_
        simp only [Act.put, List.setIfInBounds_toArray, List.set_cons_succ, List.set_cons_zero]
        repeat (go_big_quiet_step (first | exact fun _ => rfl | rfl))
        refine quiet_val rfl (.string x) (fun w' hw' => by have h3 : w'.cell? ⟨bo, 1, none⟩ = some (.string x) := hw'.blk.cell 1; go_simp) ?_
        simp only [Act.put, List.setIfInBounds_toArray, List.set_cons_succ, List.set_cons_zero]
        repeat (go_big_quiet_step (first | exact fun _ => rfl | rfl))
        refine quiet_call rfl (.int .i64 E) (fun w' hw' => by rw [← hE.out]; exact hw'.cls (two_verify w w' bk bw s y x z h _ _ hw'.two hx.out)) (fun w' _ => by go_simp) ?_
        simp only [Act.put, List.setIfInBounds_toArray, List.set_cons_succ, List.set_cons_zero]
        repeat (go_big_quiet_step (first | exact fun _ => rfl | rfl))
        refine quiet_call rfl (.string y) (fun w' hw' => by rw [← hy'.out]; exact hw'.cls (two_rid w w' bk bw s h _ _ hw'.two)) (fun w' _ => by go_simp) ?_
        simp only [Act.put, List.setIfInBounds_toArray, List.set_cons_succ, List.set_cons_zero]
        repeat (go_big_quiet_step (first | exact fun _ => rfl | rfl))
        refine quiet_val rfl (.string x) (fun w' hw' => by have h3 : w'.cell? ⟨bo, 1, none⟩ = some (.string x) := hw'.blk.cell 1; go_simp) ?_
        simp only [Act.put, List.setIfInBounds_toArray, List.set_cons_succ, List.set_cons_zero]
        repeat (go_big_quiet_step (first | exact fun _ => rfl | rfl))
        refine quiet_call rfl (.int .i64 E) (fun w' hw' => by rw [← hE.out]; exact hw'.cls (two_rverify w w' bk bw s y x z h _ _ hw'.two hx.out)) (fun w' _ => by go_simp) ?_
        simp only [Act.put, List.setIfInBounds_toArray, List.set_cons_succ, List.set_cons_zero]
        repeat (go_big_quiet_step (first | exact fun _ => rfl | rfl))
        refine wpQuiet_nil ?_
        clear hd hT hT2 d0 d1 d2 e0 e1 e2 hE
        intro w6 hT3
        replace hT3 := Box.mk hT3
        have hd := hT3.out.drew
        go_wp2_with fail
        refine region_quiet (fun w' => Thr w w' bk bw s h u u bo [.int .u8 (k : Int), .string x, .int .i64 m]) (by kernel_rfl) (by kernel_rfl) hd ?_
        repeat (go_big_quiet_step (first | exact fun _ => rfl | rfl))
        refine quiet_call rfl (.int .i64 ((u : Nat) : Int)) (fun w' hw' => hw'.same (two_used w w' bk bw s h _ _ hw'.two)) (fun w' _ => by go_simp) ?_
        simp only [Act.put, List.setIfInBounds_toArray, List.set_cons_succ, List.set_cons_zero]
        repeat (go_big_quiet_step (first | exact fun _ => rfl | rfl))
        refine quiet_val rfl (.int .i64 ((u : Nat) : Int)) (fun w' hw' => by have h3 := hw'.two.cell3; go_simp) ?_
        simp only [Act.put, List.setIfInBounds_toArray, List.set_cons_succ, List.set_cons_zero]
        repeat (go_big_quiet_step (first | exact fun _ => rfl | rfl))
        refine quiet_call rfl (.int .i64 ((2 ^ h - u : Nat) : Int)) (fun w' hw' => hw'.same (two_left w w' bk bw s h _ _ hw'.two)) (fun w' _ => by go_simp) ?_
        simp only [Act.put, List.setIfInBounds_toArray, List.set_cons_succ, List.set_cons_zero]
        repeat (go_big_quiet_step (first | exact fun _ => rfl | rfl))
        refine quiet_call rfl (.int .i64 ((2 ^ h - u : Nat) : Int)) (fun w' hw' => hw'.cls (two_rleft w w' bk bw s h _ _ hw'.two)) (fun w' _ => by go_simp) ?_
        simp only [Act.put, List.setIfInBounds_toArray, List.set_cons_succ, List.set_cons_zero]
        repeat (go_big_quiet_step (first | exact fun _ => rfl | rfl))
        refine wpQuiet_nil ?_
        clear hd hT3
        intro w7 hw7
        replace hw7 := Box.mk hw7.two
        go_wp2_with fail
        exact ⟨⟨i + 1, u, _, by omega, rfl, by go_num, hw7⟩, by simp [intOf]; omega⟩
      · have hmod : ∃ r : Nat, (k : Int).tmod 4 = (r : Int) ∧ r ≠ 2 ∧ r ≠ 3 := ⟨k % 4, by rw [Int.tmod_eq_emod_of_nonneg (by omega)]; omega, q2, q3⟩
        obtain ⟨r, hmod, q2', q3'⟩ := hmod
        have q2i : ¬ (r : Int) = 2 := by omega
        have q3i : ¬ (r : Int) = 3 := by omega
        have hF := Box.mk (hT2.out.to (E := fun e => e = .returned (signV s h u x)) (two_sign w wn bk bw s x h u u hT2.out.two hs.out hx.out))
        obtain ⟨t, E, hV⟩ : ∃ t E, signV s h u x = .tuple #[.string t, .int .i64 E] := by unfold signV; split <;> exact ⟨_, _, rfl⟩
        have hV' := Box.mk hV
        rw [hV] at hF
        clear hV q2 q3 q2' q3'
        go_wp2_with fail
        refine hF.out.mono ?_
        rintro e w5 ⟨rfl, hT3⟩
        have f2 : w5.cell? ⟨bo, 1, none⟩ = some (.string x) := hT3.blk.cell 1
        replace hF := Box.mk (hT3.to (E := fun e => e = .returned (signV s h u x)) (two_rsign w w5 bk bw s x h _ u hT3.two hs.out hx.out))
        rw [hV'.out] at hF
        clear hT2 hT hT3 d0 d1 d2 e0 e1 e2 hV'
        go_wp2_with fail
        refine hF.out.mono ?_
        rintro e w6 ⟨rfl, hT3⟩
        obtain ⟨u', hu'⟩ : ∃ u', signU h u = u' := ⟨_, rfl⟩
        rw [hu'] at hT3
        replace hT3 := Box.mk hT3
        clear hF f2 hu'
        have hd := hT3.out.drew
        go_wp2_with fail
        refine region_quiet (fun w' => Thr w w' bk bw s h u' u' bo [.int .u8 (k : Int), .string x, .int .i64 m]) (by kernel_rfl) (by kernel_rfl) hd ?_
        repeat (go_big_quiet_step (first | exact fun _ => rfl | rfl))
        refine quiet_call rfl (.int .i64 ((u' : Nat) : Int)) (fun w' hw' => hw'.same (two_used w w' bk bw s h _ _ hw'.two)) (fun w' _ => by go_simp) ?_
        simp only [Act.put, List.setIfInBounds_toArray, List.set_cons_succ, List.set_cons_zero]
        repeat (go_big_quiet_step (first | exact fun _ => rfl | rfl))
        refine quiet_val rfl (.int .i64 ((u' : Nat) : Int)) (fun w' hw' => by have h3 := hw'.two.cell3; go_simp) ?_
        simp only [Act.put, List.setIfInBounds_toArray, List.set_cons_succ, List.set_cons_zero]
        repeat (go_big_quiet_step (first | exact fun _ => rfl | rfl))
        refine quiet_call rfl (.int .i64 ((2 ^ h - u' : Nat) : Int)) (fun w' hw' => hw'.same (two_left w w' bk bw s h _ _ hw'.two)) (fun w' _ => by go_simp) ?_
        simp only [Act.put, List.setIfInBounds_toArray, List.set_cons_succ, List.set_cons_zero]
        repeat (go_big_quiet_step (first | exact fun _ => rfl | rfl))
        refine quiet_call rfl (.int .i64 ((2 ^ h - u' : Nat) : Int)) (fun w' hw' => hw'.cls (two_rleft w w' bk bw s h _ _ hw'.two)) (fun w' _ => by go_simp) ?_
        simp only [Act.put, List.setIfInBounds_toArray, List.set_cons_succ, List.set_cons_zero]
        repeat (go_big_quiet_step (first | exact fun _ => rfl | rfl))
        refine wpQuiet_nil ?_
        clear hd hT3
        intro w7 hw7
        replace hw7 := Box.mk hw7.two
        go_wp2_with fail
        exact ⟨⟨i + 1, u', _, by omega, rfl, by go_num, hw7⟩, by simp [intOf]; omega⟩
    · have hF := fun u v w1 (t : Two w w1 bk bw s h u v) => two_id w w1 bk bw s h u v t hs.out
      have hG := fun u v w1 (t : Two w w1 bk bw s h u v) => two_rid w w1 bk bw s h u v t
      obtain ⟨y, hy⟩ : ∃ y, keyID s h = y := ⟨_, rfl⟩
      rw [hy] at hF hG
      have hF1 := hF _ _ _ hT.out
      replace hF := Box.mk hF
      replace hG := Box.mk hG
      clear hy hO
      go_wp2_with fail
      refine hF1.mono ?_
      clear hF1
      rintro e w4 ⟨rfl, hT4, _⟩
      have hF1 := hG.out _ _ _ hT4
      replace hT4 := Box.mk hT4
      clear hT
      go_wp2_with fail
      refine hF1.mono ?_
      clear hF1
      rintro e w5 ⟨rfl, hT5, _⟩
      have hF1 := hF.out _ _ _ hT5
      replace hT5 := Box.mk hT5
      clear hT4
      go_wp2_with fail
      refine hF1.mono ?_
      clear hF1
      rintro e w6 ⟨rfl, hT6, _⟩
      have hF1 := hF.out _ _ _ hT6
      replace hT6 := Box.mk hT6
      clear hT5
      go_wp2_with fail
      refine hF1.mono ?_
      clear hF1
      rintro e w7 ⟨rfl, hT7, _⟩
      replace hT7 := Box.mk hT7
      clear hT6 hF hG
      go_wp2_with fail
      go_ret
      exact ⟨rfl, hT7.out.bel⟩
theorem law_plays6 (s : ByteArray) (n : Int) (a : Option Addr) (L cap : Nat) (w : World) (hK : KIs w) (hs : s.size ≤ 140737488351232) (hO : Ops6 w a L) (hcap : L ≤ cap) (hm : cap ≤ maxLen) :
    Calls Tryz.prog 3 #[.string s, .int .i64 n, .slice a L cap] w fun e w' => e = .returned (.bool true) ∧ Below w.heap.size w w' := by
  by_cases hn : n < 0 ∨ 4 < n
  · exact plays6_bad s n a L cap w hK hn
  · obtain ⟨h, rfl⟩ : ∃ h : Nat, n = (h : Int) := ⟨n.toNat, by omega⟩
    exact plays6_fit s h a L cap w hK (by omega) hs hO hcap hm
end Go.Proofs.YtbnmdieadaeeiaaGreatDoor
