/- The document's device: settled. -/
import Derived.Test.YtcccokdbgmejdaaFpB
namespace Go.Proofs.Ytcccokdbgmejdaa
open Go.RowKit

section
variable {P : Program} {w : World} {ops : Array Oper} {rest : List Oper} {o : Oper} {a : Act} {Q : Exit → Act → World → Prop}
theorem wpList_max (hgd : o.guard = none) (x y : Operand) (t : TypeId) (ho : o.op = .call { callee := .builtin .max, args := #[x, y], argTypes := #[t, t] }) (i j m : Int) (hx : a.eval x = .int .i64 i) (hy : a.eval y = .int .i64 j) (hm : (if i < j then j else i) = m)
    (k : wpList P ops Q rest (a.put o.dst (.int .i64 m)) w) : wpList P ops Q (o :: rest) a w := by
  refine wpList_plain hgd fun K hK => ?_
  have hk := hK _ _ k
  rw [← hm] at hk
  unfold Oper.wp execOp
  simp only [ho, resolve, invoke]
  simp [hx, hy, builtin, run_max_int2, Result.andThen]
  exact hk
end
theorem infoT : (Try.prog.info? 9).map (fun i => (i.zero, i.size, i.bytes)) = some (some (.string ⟨#[]⟩), 1, 16) := by kernel_rfl
theorem row_of_blk {w : World} {g : Nat} {xs : List Value} {e : TypeId} {size n : Nat} (h : Blk w g xs e) (hl : xs.length = n * size) (hn : n ≤ maxLen) : Row w e size (.slice (some ⟨g, 0, none⟩) n n) n xs :=
  ⟨hl, .inr ⟨g, n, xs.toArray, rfl, Nat.zero_le _, h, Nat.le_refl _, hn, by simpa using hl, by simp [← hl]⟩⟩
theorem strs_length (s : List Sec) : (strs s).length = s.length := by simp [strs]
theorem strs_set (s : List Sec) (n : Nat) (t : Sec) : (strs s).set n (.string (bt t)) = strs (s.set n t) := by unfold strs; rw [List.map_set]
theorem strs_one (s : List Sec) : ∀ u ∈ strs s, u.oneCell' = true := fun u hu => by
  obtain ⟨t, _, rfl⟩ := List.mem_map.1 hu
  rfl
/-- In settled's loop. -/
structure SL (w0 : World) (D : Dev) (keep : List Int) (g N c : Nat) (i : Nat) (w : World) : Prop where
  row : Row w 9 1 (.slice (some ⟨g, 0, none⟩) N c) N (strs (settleN keep D.safe D.ws i))
  k : Below w0.heap.size w0 w
  g : w0.heap.size ≤ g
theorem SL.keep {w0 w w' : World} {D : Dev} {keep : List Int} {g N c i : Nat} (h : SL w0 D keep g N c i w) (hb : Below w.heap.size w w') : SL w0 D keep g N c i w' :=
  ⟨h.row.chg (Chg.of_below hb) (fun k hk => by have := h.row.lt k hk; omega), h.k.trans (hb.mono h.k.size), h.g⟩
theorem SL.step {w0 w : World} {D : Dev} {keep : List Int} {g N c i : Nat} (h : SL w0 D keep g N c i w) (hok : D.ok) (hi : i < D.ws.length) :
    SL w0 D keep g N c (i + 1) (w.setCell ⟨g, (D.ws[i]).1, none⟩ (.string ((bt (D.ws[i]).2).extract 0 (keepAt keep i) ++ (bt ((settleN keep D.safe D.ws i).getD (D.ws[i]).1 zeroS)).extract (keepAt keep i) 64))) := by
  have hx := (World.ownsRow.stored h.row (D.ws[i]).1 (.string ((bt (D.ws[i]).2).extract 0 (keepAt keep i) ++ (bt ((settleN keep D.safe D.ws i).getD (D.ws[i]).1 zeroS)).extract (keepAt keep i) 64))).1
  rw [← tear_bt _ _ _ (okS_getD (okS_settleN hok.s hok.w i) _), strs_set] at hx
  rw [← tear_bt _ _ _ (okS_getD (okS_settleN hok.s hok.w i) _)]
  refine ⟨?_, h.k.trans ((Below.refl _ w).setCell (p := ⟨g, _, none⟩) h.g _), h.g⟩
  rw [settleN_succ _ _ _ _ hi]
  exact hx
set_option maxHeartbeats 1600000 in
theorem settled_fit (bw : Nat) (F : Nat → Prop) (D : Dev) (a : Option Addr) (c : Nat) (keep : List Int) (w : World) (h : QAt w bw F D) (h0 : 0 < D.safe.length) (hws : D.ws.length ≤ 1000000) (hI : Ints w (fun k => k < w.heap.size) (.slice a keep.length c) keep) (hkl : keep.length ≤ 9223372036854775807) :
    Calls Try.prog 41 #[.pointer (some ⟨bw, 0, none⟩), .slice a keep.length c] w fun e w' => ∃ v', e = .returned v' ∧ Row w' 9 1 v' D.safe.length (strs (settle keep D.safe D.ws)) ∧ (∀ k, v'.ownBlock = some k → w.heap.size ≤ k) ∧ Below w.heap.size w w' := by
  obtain ⟨vs, vp, hb, hs, hp, _, _⟩ := h.out
  obtain ⟨ga, gc, rfl, hgl⟩ := hs.some (by omega)
  obtain ⟨pa, pc, rfl⟩ := hp.shape
  have c0 : w.cell? ⟨bw, 0, none⟩ = some (.slice (some ⟨ga, 0, none⟩) D.safe.length gc) := hb.cell 0
  have hsB := Box.mk hs
  have hpB := Box.mk hp
  have hbB := Box.mk hb
  have hok := Box.mk h.ok
  replace h := Box.mk h
  replace hI := Box.mk hI
  clear hb hs hp
  obtain ⟨N, hN⟩ : ∃ N, D.safe.length = N := ⟨_, rfl⟩
  obtain ⟨M, hM⟩ : ∃ M, D.ws.length = M := ⟨_, rfl⟩
  rw [hN] at c0 hsB hbB
  rw [hM] at hpB hbB
  have hNm : N ≤ 4096 := by have := hok.out.n; omega
  have hbw := hbB.out.lt
  obtain ⟨wn, hwn⟩ : ∃ wn, w.alloc (.cells #[] 9) = wn := ⟨_, rfl⟩
  have hbn : Below w.heap.size w wn := hwn ▸ (Below.refl _ _).alloc (Nat.le_refl _) _
  have hn0 := Blk.new w [] 9
  rw [hwn] at hn0
  obtain ⟨bo, hbo⟩ : ∃ bo, w.heap.size = bo := ⟨_, rfl⟩
  rw [hbo] at hn0
  have c0n : wn.cell? ⟨bw, 0, none⟩ = some (.slice (some ⟨ga, 0, none⟩) N gc) := by rw [hbn.cell (p := ⟨bw, _, none⟩) hbw]; exact c0
  have hR0 : Row wn 9 1 (.slice (some ⟨bo, 0, none⟩) 0 0) 0 [] := row_of_blk hn0 rfl (Nat.zero_le _)
  have hRs : ∀ j u, (strs D.safe)[j]? = some u → wn.cell? ((⟨ga, 0, none⟩ : Addr).add j) = some u := fun j u hu => by
    have h1 := hsB.out.cells j u hu
    have hadd : (⟨ga, 0, none⟩ : Addr).add j = ⟨ga, j, none⟩ := by unfold Addr.add; split <;> simp_all
    rw [hadd, hbn.cell (p := ⟨ga, _, none⟩) hgl]; exact h1
  have hsl : (strs D.safe).length = N * 1 := by rw [strs_length, hN]; omega
  have h1c := strs_one D.safe
  obtain ⟨iT, hiT, hzT, hsT, hbT⟩ := info_parts infoT
  replace hR0 := Box.mk hR0
  replace hRs := Box.mk hRs
  replace hsl := Box.mk hsl
  replace h1c := Box.mk h1c
  replace hbn := Box.mk hbn
  have hH := Box.mk (And.intro hiT (And.intro hzT (And.intro hsT hbT)))
  replace hN := Box.mk hN
  replace hM := Box.mk hM
  clear hn0 hiT hzT hsT hbT c0 hsB
  go_enter Try.func41, Try.ntmps41
  go_wp2_with (refine wpList_pushR rfl (.tmp 9) (.tmp 13) 63 9 rfl iT (.string ⟨#[]⟩) 1 16 Try.underlying63 hH.out.1 hH.out.2.1 hH.out.2.2.1 hH.out.2.2.2 rfl (by omega) (.slice (some ⟨bo, 0, none⟩) 0 0) 0 [] rfl hR0.out ⟨ga, 0, none⟩ N gc (strs D.safe) rfl hsl.out hRs.out h1c.out (by unfold maxLen; omega) (by omega) ?_; intro vo w2 hpush)
  have hpr : Row w2 9 1 vo N (strs D.safe) := by
    have := hpush.row
    rw [Nat.zero_add] at this
    exact this
  obtain ⟨go, gcap, rfl, hgo⟩ := hpr.some (by have := hN.out; omega)
  have hgo2 : w.heap.size ≤ go := by
    rcases hpush.place go rfl with h1 | h1
    · obtain rfl : bo = go := by simpa [Value.ownBlock] using h1
      omega
    · have := hbn.out.size; omega
  have hS2 : Box (SL w D keep go N gcap 0 w2) := ⟨hpr, hbn.out.trans (hpush.chg.below hbn.out.size (fun j hj => by
    have : bo = j := by simpa [Value.ownBlock] using hj
    omega)), hgo2⟩
  clear hpush hpr hR0 hRs hsl h1c hH c0n hbn hgo hwn
  go_loopw [6] (fun s6 wr => ∃ i : Nat, i ≤ M ∧ s6 = .int .i64 i ∧ Box (SL w D keep go N gcap i wr)) (fun s6 _ => M - (intOf s6).toNat)
  case atStart => exact ⟨0, by omega, rfl, hS2⟩
  case round =>
    clear hS2
    obtain ⟨i, hi, rfl, hK⟩ := hrel
    have c1 : wr.cell? ⟨bw, 1, none⟩ = some (.slice pa M pc) := by
      rw [hK.out.k.cell (p := ⟨bw, _, none⟩) (by omega)]; exact hbB.out.cell 1
    by_cases hlt : i < M
    · have hil : i < D.ws.length := by have := hM.out; omega
      obtain ⟨ga2, gc2, he2, hg2⟩ := hpB.out.some (by omega)
      cases he2
      obtain ⟨w0, w1⟩ := wcs_get D.ws i hil
      have d0 := hpB.out.cells _ _ w0
      have d1 := hpB.out.cells _ _ w1
      rw [← hK.out.k.cell (p := ⟨ga2, _, none⟩) hg2] at d0 d1
      have hq : (D.ws[i]).1 < (settleN keep D.safe D.ws i).length := by rw [settleN_length]; exact (hok.out.w _ (List.getElem_mem hil)).1
      have hqN : (D.ws[i]).1 < N := by rw [settleN_length, hN.out] at hq; exact hq
      have ho := strs_get (settleN keep D.safe D.ws i) (D.ws[i]).1 hq
      have hz1 : (bt (D.ws[i]).2).size = 64 := (hok.out.w _ (List.getElem_mem hil)).2
      have hz2 : (bt ((settleN keep D.safe D.ws i).getD (D.ws[i]).1 zeroS)).size = 64 := okS_getD (okS_settleN hok.out.s hok.out.w i) _
      obtain ⟨q, hT1⟩ : ∃ q, (D.ws[i]).1 = q := ⟨_, rfl⟩
      obtain ⟨kk, hkk⟩ : ∃ kk, keepAt keep i = kk := ⟨_, rfl⟩
      rw [hT1] at d0 hq hqN ho hz2
      obtain ⟨Tb, hT2⟩ : ∃ T, bt (D.ws[i]).2 = T := ⟨_, rfl⟩
      obtain ⟨Ob, hT3⟩ : ∃ T, bt ((settleN keep D.safe D.ws i).getD q zeroS) = T := ⟨_, rfl⟩
      rw [hT2] at d1 hz1
      rw [hT3] at ho hz2
      have hk64 : kk ≤ 64 := by rw [← hkk]; exact keepAt_le _ _
      have hkv := hkk
      unfold keepAt at hkv
      replace hkk := Box.mk hkk
      replace hT1 := Box.mk hT1
      replace hT2 := Box.mk hT2
      replace hT3 := Box.mk hT3
      clear w0 w1 hq
      by_cases hk0 : keep.length = 0
      · have hke : keep = [] := List.eq_nil_of_length_eq_zero hk0
        rw [if_pos hke] at hkv
        subst hkv
        generalize hkl2 : keep.length = L at *
        subst hk0
        clear hke hkl2
        have hnew := Blk.new wr [.int .i64 (q : Int), .string Tb] 84
        obtain ⟨wk, hwk⟩ : ∃ wk, wr.alloc (.cells #[.int .i64 (q : Int), .string Tb] 84) = wk := ⟨_, rfl⟩
        have hK2 := hK.out.keep (hwk ▸ (Below.refl _ _).alloc (Nat.le_refl _) _ : Below wr.heap.size wr wk)
        rw [hwk] at hnew
        obtain ⟨b8, hb8⟩ : ∃ b8, wr.heap.size = b8 := ⟨_, rfl⟩
        rw [hb8] at hnew
        have e0 : wk.cell? ⟨b8, 0, none⟩ = some (.int .i64 (q : Int)) := hnew.cell 0
        have e1 : wk.cell? ⟨b8, 1, none⟩ = some (.string Tb) := hnew.cell 1
        have e2 : wk.cell? ⟨go, q, none⟩ = some (.string Ob) := hK2.row.cells q _ ho
        have e3 := World.ownsRow.frozenAt hK2.row q
        have hSt : ∀ r, Box (SL w D keep go N gcap (i + 1) ((wk.drewN r).setCell ⟨go, q, none⟩ (.string (Ob.extract 0 64)))) := fun r => ⟨by
          have := (hK2.keep (below_drewN _ wk r)).step hok.out hil
          rw [hkk.out, hT1.out, hT2.out, hT3.out] at this
          rw [show Tb.extract 0 0 ++ Ob.extract 0 64 = Ob.extract 0 64 by simp] at this
          exact this⟩
        replace hSt := Box.mk hSt
        clear hK hK2 hnew
        go_wp2_with fail
        refine region_quiet_tail (C := fun w' => ∃ n, w' = wk.drewN n) 16 rfl (by kernel_rfl) ⟨1, rfl⟩ ?_
        simp only [List.take, List.drop]
        repeat (go_big_quiet_step (first | exact fun _ => rfl | rfl))
        refine wpQuiet_nil ?_
        rintro w5 ⟨r, rfl⟩
        have hS5 := hSt.out r
        have f5 : (wk.drewN r).frozen? ⟨go, q, none⟩ = false := e3
        have c5 : (wk.drewN r).cell? ⟨go, q, none⟩ = some (.string Ob) := e2
        generalize wk.drewN r = w5 at hS5 f5 c5 ⊢
        clear hSt e0 e1 e2 e3
        go_wp2_with fail
        exact ⟨⟨i + 1, by omega, by go_num, hS5⟩, by simp [intOf]; omega⟩
      · obtain ⟨ai, ci, hiv, hic⟩ := hI.out.out
        cases hiv
        obtain ⟨cb, co, rfl, hcb, _, hcs⟩ := hic (by omega)
        have hml : i % keep.length < keep.length := Nat.mod_lt _ (by omega)
        have hcx := hcs _ hml
        rw [← hK.out.k.cell (p := ⟨cb, _, none⟩) hcb] at hcx
        have hm : (i : Int).tmod (keep.length : Int) = ((i % keep.length : Nat) : Int) := by rw [Int.tmod_eq_emod_of_nonneg (by omega)]; omega
        rw [if_neg (by rintro rfl; simp at hk0)] at hkv
        obtain ⟨x, hx⟩ : ∃ x, keep.getD (i % keep.length) 0 = x := ⟨_, rfl⟩
        rw [hx] at hkv hcx
        have hmx : Box ((if x < 0 then 0 else x) = max x 0) := ⟨by split <;> omega⟩
        have hmn : Box ((if (64 : Int) < max x 0 then 64 else max x 0) = (kk : Int)) := ⟨by rw [← hkv]; split <;> omega⟩
        clear hkv hx hcs hic hcb
        generalize i % keep.length = j at *
        generalize keep.length = L at *
        have hnew := Blk.new wr [.int .i64 (q : Int), .string Tb] 84
        obtain ⟨wk, hwk⟩ : ∃ wk, wr.alloc (.cells #[.int .i64 (q : Int), .string Tb] 84) = wk := ⟨_, rfl⟩
        have hK2 := hK.out.keep (hwk ▸ (Below.refl _ _).alloc (Nat.le_refl _) _ : Below wr.heap.size wr wk)
        rw [hwk] at hnew
        obtain ⟨b8, hb8⟩ : ∃ b8, wr.heap.size = b8 := ⟨_, rfl⟩
        rw [hb8] at hnew
        have e0 : wk.cell? ⟨b8, 0, none⟩ = some (.int .i64 (q : Int)) := hnew.cell 0
        have e1 : wk.cell? ⟨b8, 1, none⟩ = some (.string Tb) := hnew.cell 1
        have e2 : wk.cell? ⟨go, q, none⟩ = some (.string Ob) := hK2.row.cells q _ ho
        have e3 := World.ownsRow.frozenAt hK2.row q
        have hSt : ∀ r, Box (SL w D keep go N gcap (i + 1) ((wk.drewN r).setCell ⟨go, q, none⟩ (.string (Tb.extract 0 kk ++ Ob.extract kk 64)))) := fun r => ⟨by
          have := (hK2.keep (below_drewN _ wk r)).step hok.out hil
          rw [hkk.out, hT1.out, hT2.out, hT3.out] at this
          exact this⟩
        replace hSt := Box.mk hSt
        clear hK hK2 hnew
        go_wp2_with (first | (refine wpList_max rfl (.tmp 33) (.const (.int .i64 0)) 3 rfl x 0 (max x 0) rfl rfl hmx.out ?_) | (refine wpList_min rfl (.tmp 34) (.const (.int .i64 64)) 3 rfl (max x 0) 64 (kk : Int) rfl rfl hmn.out ?_))
        refine region_quiet_tail (C := fun w' => ∃ n, w' = wk.drewN n) 16 rfl (by kernel_rfl) ⟨1, rfl⟩ ?_
        simp only [List.take, List.drop]
        repeat (go_big_quiet_step (first | exact fun _ => rfl | rfl))
        refine wpQuiet_nil ?_
        rintro w5 ⟨r, rfl⟩
        have hS5 := hSt.out r
        have f5 : (wk.drewN r).frozen? ⟨go, q, none⟩ = false := e3
        have c5 : (wk.drewN r).cell? ⟨go, q, none⟩ = some (.string Ob) := e2
        generalize wk.drewN r = w5 at hS5 f5 c5 ⊢
        clear hSt e0 e1 e2 e3
        go_wp2_with fail
        exact ⟨⟨i + 1, by omega, by go_num, hS5⟩, by simp [intOf]; omega⟩
    · have hi2 : i = M := by omega
      subst hi2
      go_wp2_with fail
      go_ret
      have hr := hK.out.row
      refine ⟨_, rfl, ?_, fun k hk => ?_, hK.out.k⟩
      · rw [hN.out]
        unfold settle
        rw [hM.out]
        exact hr
      · obtain rfl : go = k := by simpa [Value.ownBlock] using hk
        exact hgo2
end Go.Proofs.Ytcccokdbgmejdaa
