/- Crash. -/
import Derived.Test.YtoaipjpbioaneaaGreatFlH
namespace Go.Proofs.YtoaipjpbioaneaaGreat
open Go.RowKit

theorem spl_more {α : Type} (L : List α) (off : Nat) (a b : List α) (h : (L.drop (off + a.length)).take b.length = b) : spl L off (a ++ b) = spl L off a := by
  unfold spl
  rw [List.length_append, List.append_assoc]
  congr 2
  have := List.take_append_drop b.length (L.drop (off + a.length))
  rw [h, List.drop_drop] at this
  rw [← this, Nat.add_assoc]
theorem secCells_tear (s : List Sec) (n k : Nat) (t : Sec) (hs : okS s) (ht : t.length = 64) (hn : n < s.length) (hk : k ≤ 64) : spl (secCells s) (n * 64) ((t.take k).map yc) = secCells (s.set n (tear k t (s.getD n zeroS))) := by
  have ho := okS_getD hs n
  rw [← secCells_set s n _ hs (tear_length k t _ ht ho) hn, tear, List.map_append, spl_more]
  have hl : ((t.take k).map yc).length = k := by simp; omega
  have hg := secCells_get s n hs hn
  rw [hl, List.length_map, List.length_drop, ho, List.map_drop, ← hg, List.drop_take, List.drop_drop]
section
variable {P : Program} {w : World} {o : Oper} {a : Act} {Q : Exit → Act → World → Prop}
theorem wp_copyH {K : Act → World → Prop} (d s : Operand) (dT sT elem : TypeId) (ho : o.op = .call { callee := .builtin .copy, args := #[d, s], argTypes := #[dT, sT] })
    (hu : P.underlying dT = some (.slice elem)) (hs : (P.info? elem).map (·.size) = some 1) (g off dLen dCap g2 o2 sLen sCap : Nat) (e : TypeId) (L vs : List Value) (hd : a.eval d = .slice (some ⟨g, off, none⟩) dLen dCap) (hx : a.eval s = .slice (some ⟨g2, o2, none⟩) sLen sCap)
    (h : Hold w g e L) (hn : vs.length = Nat.min sLen dLen) (hsrc : w.rangeAt g2 o2 vs) (hfit : off + vs.length ≤ L.length) (h1 : ∀ v ∈ vs, v.oneCell' = true)
    (k : ∀ w', Laid w g e L off vs w' → K (a.put o.dst (goInt vs.length)) w') : o.wp P a w K Q := by
  obtain ⟨w', hr, hl⟩ := run_copyH (P := P) dT sT o.type elem hu hs g off dLen dCap g2 o2 sLen sCap e L vs h hn hsrc hfit h1
  unfold Oper.wp execOp
  simp only [ho, resolve, invoke, builtin, Sem.run_bind, Sem.run_pure, Result.andThen_ok, List.map_toArray, List.map_cons, List.map_nil, hd, hx, hr]
  exact k w' hl
end
theorem undo_any (bd : Nat) (F : Nat → Prop) (D : Dev) (w : World) (h : DAt w bd F D) (h0 : 0 < D.safe.length) (hws : D.ws.length ≤ 1000000)
    (g c : Nat) (pa : Option Addr) (pc : Nat) (hb : Blk w bd [.slice (some ⟨g, 0, none⟩) D.safe.length c, .slice pa D.ws.length pc, .int .i64 (D.taken : Int), .int .i64 (D.fall : Int), .bool D.off] 73)
    (hs : Row w 81 64 (.slice (some ⟨g, 0, none⟩) D.safe.length c) D.safe.length (secCells D.seen)) (hp : Row w 83 129 (.slice pa D.ws.length pc) D.ws.length (wrCells (pendW D.safe D.ws))) :
    Calls Tryz.prog 37 #[.pointer (some ⟨bd, 0, none⟩)] w fun e W' => e = .returned (.tuple #[]) ∧ Row W' 81 64 (.slice (some ⟨g, 0, none⟩) D.safe.length c) D.safe.length (secCells D.safe) ∧ Chg (fun k => k = g ∨ w.heap.size ≤ k) w W' :=
  callsIn_wide.1 (undo_in bd F D w h h0 hws g c pa pc hb hs hp)

theorem sizeF : (Tryz.prog.info? 25).map (·.size) = some 1 := by kernel_rfl
/-- Behind i writes laid again. -/
structure CrI (w : World) (g c bf : Nat) (v : Value) (keep : List Int) (D : Dev) (i : Nat) (wr : World) : Prop where
  row : Row wr 81 64 (.slice (some ⟨g, 0, none⟩) D.safe.length c) D.safe.length (secCells (settleN keep D.safe D.ws i))
  box : Blk wr bf [v] 25
  chg : Chg (fun k => k = g ∨ w.heap.size ≤ k) w wr
set_option maxHeartbeats 3200000 in
set_option maxRecDepth 100000 in
theorem crash_fit (bd : Nat) (F G : Nat → Prop) (D : Dev) (v : Value) (keep : List Int) (w : World) (h : DAt w bd F D) (hFG : ∀ k, F k → ¬ G k) (h0 : 0 < D.safe.length) (hws : D.ws.length ≤ 1000000) (hI : Ints w G v keep) (hkl : keep.length ≤ 9223372036854775807) :
    Calls Tryz.prog 12 #[.pointer (some ⟨bd, 0, none⟩), .agg #[v]] w fun e w' => e = .returned (.tuple #[]) ∧ DNext w bd F (D.crash keep) w' := by
  obtain ⟨iW, zW, hiW, hzW, hiW1, hiW2, hLW⟩ := info_cells infoW
  have hH := Box.mk (And.intro hiW (And.intro hzW (And.intro hiW1 (And.intro hiW2 hLW))))
  clear hiW hzW hiW1 hiW2 hLW
  obtain ⟨vs, vp, hb, hs, hp, hF1, hF2⟩ := h.out
  obtain ⟨g, c, rfl, hgl⟩ := hs.some h0
  obtain ⟨pa, pc, rfl⟩ := hp.shape
  obtain ⟨w1, hw1⟩ : ∃ w1, w.alloc (.cells #[v] 25) = w1 := ⟨_, rfl⟩
  have hnf := Blk.new w [v] 25
  rw [hw1] at hnf
  have hc1 : Chg (fun _ => False) w w1 := hw1 ▸ (Chg.refl _ _).alloc _
  have hz1 : w1.heap.size = w.heap.size + 1 := by rw [← hw1]; simp
  obtain ⟨bf, hbf⟩ : ∃ bf, w.heap.size = bf := ⟨_, rfl⟩
  rw [hbf] at hnf
  have hD1 := h.chg hc1 (fun _ _ h => h)
  have hb1 := hc1.blk hb (fun h => h)
  have hU := Box.mk (undo_any bd F D w1 hD1 h0 hws g c pa pc hb1 (hs.chg hc1 (fun _ _ h => h)) (hp.chg hc1 (fun _ _ h => h)))
  have hgb : g ≠ bd := by
    rintro rfl
    exact hs.apart hb (by decide) rfl
  have hgp : Box (∀ k, (Value.slice pa D.ws.length pc).ownBlock = some k → ¬ (k = g ∨ w.heap.size ≤ k)) := ⟨fun k hk hc => by
    have h1 := hp.lt k hk
    rcases hc with rfl | h2
    · exact hs.unlike hp (by decide) k rfl hk
    · omega⟩
  have hbg : Box (¬ (bd = g ∨ w.heap.size ≤ bd) ∧ g < bf ∧ w.heap.size = bf) := ⟨by have := hb.lt; omega⟩
  replace hb := Box.mk hb
  replace hs := Box.mk hs
  replace hp := Box.mk hp
  replace hF1 := Box.mk hF1
  replace hF2 := Box.mk hF2
  replace hnf := Box.mk hnf
  replace hc1 := Box.mk hc1
  replace h := Box.mk h
  have hGg : Box (¬ G g) := ⟨hFG g (hF1.out g rfl)⟩
  replace hI := Box.mk hI
  replace hkl := Box.mk hkl
  replace hz1 := Box.mk hz1
  clear hgl hD1 hb1 hgb
  go_enter Tryz.func12, Tryz.ntmps12
  go_wp2_with fail
  refine hU.out.mono ?_
  rintro e w2 ⟨rfl, hs2, hc2⟩
  have hc02 : Chg (fun k => k = g ∨ w.heap.size ≤ k) w w2 := (hc1.out.mono (T := fun k => k = g ∨ w.heap.size ≤ k) (fun _ _ h => h.elim)).trans hc2 (fun i _ hi => hi.imp id (fun h => by have := hz1.out; omega))
  have hbx2 := hc2.blk hnf.out (by have h1 := hbg.out; have h2 := hz1.out; omega)
  have hb2 := hc02.blk hb.out hbg.out.1
  have c1 : w2.cell? ⟨bd, 1, none⟩ = some (.slice pa D.ws.length pc) := hb2.cell 1
  have hI0 : Box (CrI w g c bf v keep D 0 w2) := ⟨⟨hs2, hbx2, hc02⟩⟩
  obtain ⟨M, hM⟩ : ∃ M, D.ws.length = M := ⟨_, rfl⟩
  rw [hM] at c1 hws
  replace hM := Box.mk hM
  clear hU hw1 hbf hs2 hc2 hc02 hbx2 hb2
  go_wp2_with fail
  clear c1
  go_loopw [15] (fun s15 wr => ∃ i : Nat, i ≤ M ∧ s15 = .int .i64 i ∧ Box (CrI w g c bf v keep D i wr)) (fun s15 _ => M - (intOf s15).toNat)
  case atStart => exact ⟨0, by omega, rfl, hI0⟩
  case round =>
    clear hI0
    obtain ⟨i, hi, rfl, hC⟩ := hrel
    have hbr := Box.mk (hC.out.chg.blk hb.out hbg.out.1)
    by_cases hlt : i < M
    · obtain ⟨b, c2, e2, hbl⟩ := hp.out.some (by have := hM.out; omega)
      cases e2
      have hpr := (hp.out.chg hC.out.chg (fun k hk => hgp.out k hk))
      have hoP := okP_pend D.safe D.ws _ h.out.ok.s h.out.ok.w
      have hil : i < D.ws.length := by have := hM.out; omega
      have hpl : i < (pendW D.safe D.ws).length := by rw [pendW_length]; exact hil
      have hx := (Hold.of_row hpr).range (i * 129) 129
      rw [wrCells_get _ _ hoP hpl] at hx
      have hq := hoP _ (List.getElem_mem hpl)
      have hqe : (pendW D.safe D.ws)[i] = ⟨(D.ws[i]).1, (runW D.safe (D.ws.take i)).getD (D.ws[i]).1 zeroS, (D.ws[i]).2⟩ := by
        have h1 := pendW_get D.safe D.ws i hil
        rw [List.getElem?_eq_getElem hpl] at h1
        exact Option.some.inj h1
      rw [hqe] at hx hq
      have hwi := h.out.ok.w _ (List.getElem_mem hil)
      have hlay : Box (settleN keep D.safe D.ws (i + 1) = lay1 keep i (settleN keep D.safe D.ws i) (D.ws[i])) := ⟨settleN_succ _ _ _ _ hil⟩
      unfold lay1 at hlay
      obtain ⟨at', hat⟩ : ∃ n, (D.ws[i]).1 = n := ⟨_, rfl⟩
      obtain ⟨aft, haft⟩ : ∃ n, (D.ws[i]).2 = n := ⟨_, rfl⟩
      rw [hat, haft] at hx hq hlay
      rw [hat, haft] at hwi
      obtain ⟨bef, hbef⟩ : ∃ n, (runW D.safe (D.ws.take i)).getD at' zeroS = n := ⟨_, rfl⟩
      rw [hbef] at hx hq
      have hwl : (Wr.cells ⟨at', bef, aft⟩).length = 129 := Wr.cells_length _ hq.1 hq.2
      have hIr := hI.out.chg hC.out.chg (fun k hk hG => by
        rintro (rfl | h2)
        · exact hGg.out hG
        · omega)
      have hKp := Box.mk (fun V (hV : Chg (fun k => k = g ∨ wr.heap.size ≤ k) wr V) => kept_any G v keep i V (hIr.chg hV (fun k hk hG => by
        rintro (rfl | h2)
        · exact hGg.out hG
        · omega)) hkl.out (by omega))
      have hrow := hC.out.row
      have hbox := Box.mk hC.out.box
      have hsl : Box ((secCells (settleN keep D.safe D.ws i)).length = D.safe.length * 64) := ⟨by rw [secCells_length _ (okS_settleN h.out.ok.s h.out.ok.w i), settleN_length]⟩
      have hso := Box.mk (okS_settleN (keep := keep) h.out.ok.s h.out.ok.w i)
      have hsn : Box (at' < (settleN keep D.safe D.ws i).length) := ⟨by rw [settleN_length]; exact hwi.1⟩
      have hkl2 := keepAt_le keep i
      obtain ⟨bx, hbx⟩ : ∃ bx, wr.heap.size = bx := ⟨_, rfl⟩
      have hlb : Box (bf < bx ∧ bd < bx ∧ g < bx) := ⟨by have h1 := hC.out.box.lt; have h2 := hbr.out.lt; have h3 := hrow.lt g rfl; omega⟩
      obtain ⟨N, hN⟩ : ∃ N, D.safe.length = N := ⟨_, rfl⟩
      have hatN : at' < N := by rw [← hN]; exact hwi.1
      rw [hbx] at hKp
      replace hx := Box.mk hx
      replace hq := Box.mk hq
      replace hbx := Box.mk hbx
      replace hwl := Box.mk hwl
      replace hrow := Box.mk hrow
      replace hN := Box.mk hN
      obtain ⟨kp, hkp⟩ : ∃ kp, keepAt keep i = kp := ⟨_, rfl⟩
      rw [hkp] at hkl2 hlay hKp
      clear hpr hoP hil hpl hqe hwi hat haft hbef hIr hkp hbl
      go_wp2_with (first
        | (refine wpList_load_mid (cs := Wr.cells ⟨at', bef, aft⟩) rfl 83 (.tmp 18) rfl b (i * 129) rfl _ hx.out Tryz.underlying83 rfl (by rw [sizeW, hwl.out]) ?_)
        | (refine wpList_allocL rfl 83 rfl iW zW zeroW hH.out.1 hH.out.2.1 hH.out.2.2.2.2 bx hbx.out ?_; intro w3 hb3 hc3 hz3; replace hb3 := Box.mk hb3; replace hc3 := Box.mk hc3; replace hz3 := Box.mk hz3)
        | (refine wpList_storeH rfl 83 (.tmp 5) (.tmp 19) rfl bx 0 83 zeroW (Wr.cells ⟨at', bef, aft⟩) rfl rfl (Hold.of_blk hb3.out) (by rw [hwl.out, zeroW_length]; omega) (Wr.cells_one _) (by rw [sizeW, hwl.out]) ?_; intro w4 hl4; replace hl4 := Box.mk hl4; have hb4 := Box.mk (hl4.out.blk hb3.out)))
      have e4 : Box (Blk w4 bx (Wr.cells ⟨at', bef, aft⟩) 83) := ⟨by
        have := hb4.out
        rw [spl_full _ _ (by rw [hwl.out, zeroW_length])] at this
        exact this⟩
      have hC4 : Box (Chg (fun k => k = bx) wr w4) := ⟨(hc3.out.mono (T := fun k => k = bx) (fun _ _ h => h.elim)).trans hl4.out.chg (fun _ _ h => h)⟩
      have hbox4 := Box.mk (hC4.out.blk hbox.out (by have := hlb.out; omega))
      have hbr4 := Box.mk (hC4.out.blk hbr.out (by have := hlb.out; omega))
      have hrow4 := Box.mk (hrow.out.chg hC4.out (fun k hk e => by have := hlb.out; simp [Value.ownBlock] at hk; omega))
      have hz4 : Box (bx < w4.heap.size) := ⟨e4.out.lt⟩
      clear hb3 hc3 hz3 hl4 hb4 hbox hrow hx
      have hCd : Box (Chg (fun k => k = g ∨ w4.heap.size ≤ k) w4 w4.drew) := ⟨(Chg.refl _ _).drew⟩
      refine region_go (C := fun V => Chg (fun k => k = g ∨ w4.heap.size ≤ k) w4 V) rfl ?_
      have hrd : Box (Row w4.drew 81 64 _ _ _) := ⟨hrow4.out⟩
      generalize w4.drew = wd at hCd hrd ⊢
      have hnx : Box (¬ (bf = g ∨ w4.heap.size ≤ bf) ∧ ¬ (bd = g ∨ w4.heap.size ≤ bd) ∧ ¬ (bx = g ∨ w4.heap.size ≤ bx)) := ⟨by
        have h1 := hlb.out
        have h2 := hz4.out
        have h3 := hbg.out
        omega⟩
      refine go_calms [0, 1, 2, 3, 4, 5, 6, 7, 8, 9, 10] 3 rfl (by kernel_rfl) (by kernel_rfl) (by kernel_rfl) hCd.out ?_
      simp [nth]
      repeat (go_big_quiet_step (first | exact fun _ => rfl | rfl))
      refine quiet_any rfl (.slice (some ⟨g, 0, none⟩) N c) (fun V hV => by
        have c9 : V.cell? ⟨bd, 0, none⟩ = some (.slice (some ⟨g, 0, none⟩) D.safe.length c) := (hV.blk hbr4.out hnx.out.2.1).cell 0
        rw [hN.out] at c9
        go_simp) ?_
      simp only [Act.put, List.setIfInBounds_toArray, List.set_cons_succ, List.set_cons_zero]
      repeat (go_big_quiet_step (first | exact fun _ => rfl | rfl))
      refine quiet_any rfl (.int .i64 (at' : Int)) (fun V hV => by
        have c9 : V.cell? ⟨bx, 0, none⟩ = some (.int .i64 (at' : Int)) := (hV.blk e4.out hnx.out.2.2).cell 0
        go_simp) ?_
      simp only [Act.put, List.setIfInBounds_toArray, List.set_cons_succ, List.set_cons_zero]
      repeat (go_big_quiet_step (first | exact fun _ => rfl | rfl))
      refine quiet_any rfl (.agg #[v]) (fun V hV => exec_load_mid _ 25 (.tmp 3) rfl bf 0 rfl [v] _ (range_all (hV.blk hbox4.out hnx.out.1)) Tryz.underlying25 rfl sizeF) ?_
      simp only [Act.put, List.setIfInBounds_toArray, List.set_cons_succ, List.set_cons_zero]
      repeat (go_big_quiet_step (first | exact fun _ => rfl | rfl))
      refine wpQuiet_nil ?_
      refine go_forced 11 (by kernel_rfl) (goOp_wp 11 rfl rfl (fun K hK => ?_))
      go_simp
      refine (hKp.out wd ?_).mono ?_
      · exact (hC4.out.mono (T := fun k => k = g ∨ bx ≤ k) (fun i _ hi => .inr (by omega))).trans hCd.out (fun i _ hi => hi.imp id (fun h => by have := hz4.out; omega))
      rintro e w5 ⟨rfl, hb5⟩
      have hC5 := Box.mk (hCd.out.trans (Chg.of_below hb5) (fun i _ hi => .inr (Nat.le_trans hCd.out.size hi)))
      have hr5 := Box.mk (hrd.out.kept fun k hk => hb5.block k (hrd.out.lt k hk))
      refine hK _ _ hC5.out ?_
      clear hK K hb5 hKp
      refine go_calms [12] 1 rfl (by kernel_rfl) (by kernel_rfl) (by kernel_rfl) hC5.out ?_
      simp [nth]
      have hkp0 : (0 : Int) ≤ (kp : Int) ∧ (kp : Int) ≤ 64 := by omega
      refine quiet_any rfl (.slice (some ⟨bx, 65, none⟩) kp 64) (fun V hV => by go_simp) ?_
      simp only [Act.put, List.setIfInBounds_toArray, List.set_cons_succ, List.set_cons_zero]
      refine wpQuiet_nil ?_
      have hsrc := (Hold.of_blk (hC5.out.blk e4.out hnx.out.2.2)).range 65 64
      rw [Wr.cells_aft _ hq.out.1 hq.out.2] at hsrc
      have hsrc2 : w5.rangeAt bx 65 ((aft.take kp).map yc) := fun j u hj => hsrc j u (by
        rw [List.map_take, List.getElem?_take] at hj
        split at hj
        · exact hj
        · cases hj)
      have htl : ((aft.take kp).map yc).length = kp := by rw [List.length_map, List.length_take, hq.out.2]; omega
      refine go_forced 13 (by kernel_rfl) (goOp_wp 13 rfl rfl (fun K hK => ?_))
      refine wp_copyH (.tmp 27) (.tmp 32) 84 84 5 rfl Tryz.underlying84 sizeB g (at' * 64) 64 64 bx 65 kp 64 81 _ ((aft.take kp).map yc) rfl rfl (Hold.of_row hr5.out) (by rw [htl]; exact (Nat.min_eq_left hkl2).symm) hsrc2 (by rw [htl, hsl.out]; have := hN.out; omega) (yc_one _) ?_
      intro w6 hl6
      have hC6 := hC5.out.trans hl6.chg (fun _ _ h => .inl h)
      refine hK _ _ hC6 ?_
      clear hK K
      refine go_done (by kernel_rfl) ?_
      have hR6 : Box (CrI w g c bf v keep D (i + 1) w6) := ⟨by
        refine ⟨?_, hC6.blk hbox4.out hnx.out.1, ?_⟩
        · rw [hlay.out, ← secCells_tear _ _ _ _ hso.out hq.out.2 hsn.out hkl2]
          exact hl6.row _ _ _ hr5.out
        · exact (hC.out.chg.trans (hC4.out.mono (T := fun k => k = g ∨ w.heap.size ≤ k) (fun j _ hj => .inr (by have := hC.out.chg.size; have := hbx.out; omega))) (fun _ _ h => h)).trans hC6 (fun j _ hj => hj.imp id (fun h => by have := hC.out.chg.size; have := hC4.out.size; omega))⟩
      clear hsrc hsrc2 hC6 hl6 hC5 hr5 hCd hrd htl
      go_wp2_with fail
      exact ⟨⟨i + 1, by omega, by go_num, hR6⟩, by simp [intOf]; omega⟩
    · have hiM : i = M := by omega
      subst hiM
      have c1 : wr.cell? ⟨bd, 1, none⟩ = some (.slice pa D.ws.length pc) := hbr.out.cell 1
      have c3 : wr.cell? ⟨bd, 3, none⟩ = some (.int .i64 (D.fall : Int)) := hbr.out.cell 3
      have c4 : wr.cell? ⟨bd, 4, none⟩ = some (.bool D.off) := hbr.out.cell 4
      have f1 := hbr.out.free 1
      have f3 := hbr.out.free 3
      have f4 := hbr.out.free 4
      have hfin : Box (DNext w bd F (D.crash keep) (((wr.setCell ⟨bd, 1, none⟩ (.slice none 0 0)).setCell ⟨bd, 3, none⟩ (.int .i64 0)).setCell ⟨bd, 4, none⟩ (.bool false))) := ⟨by
        have hbN := ((hbr.out.setCell 1 (.slice none 0 0)).setCell 3 (.int .i64 0)).setCell 4 (.bool false)
        have hc8 : Chg (fun k => k = bd) wr (((wr.setCell ⟨bd, 1, none⟩ (.slice none 0 0)).setCell ⟨bd, 3, none⟩ (.int .i64 0)).setCell ⟨bd, 4, none⟩ (.bool false)) := (chg2 _ _ _ _ _ _).trans (chg1 _ _ _ _) (fun _ _ h => h)
        have hset : settleN keep D.safe D.ws i = (D.crash keep).safe := by unfold Dev.crash settle; rw [hM.out]
        have hsw := hC.out.chg.size
        have hs8 := hc8.size
        refine ⟨⟨h.out.ok.crash keep, ⟨_, _, hbN, ?_, Row.nil _ _ _, fun k hk => .inl (hF1.out k (by simpa [Value.ownBlock] using hk)), fun k hk => by cases hk⟩, .inl h.out.fd, fun k hk => ?_⟩, ?_⟩
        · have := hC.out.row.chg hc8 (fun k hk e => by
            obtain rfl : g = k := by simpa [Value.ownBlock] using hk
            exact hbg.out.1 (.inl e.symm))
          rw [hset] at this
          rw [show (D.crash keep).seen = (D.crash keep).safe from rfl, show (D.crash keep).safe.length = D.safe.length by rw [← hset, settleN_length]]
          exact this
        · rcases hk with hk | hk
          · have := h.out.lt k hk; omega
          · exact hk.2
        · have h1 : Chg F w wr := ⟨hC.out.chg.os, hC.out.chg.tape, hC.out.chg.output, hsw, fun k hk hn => hC.out.chg.block k hk (by
            rintro (rfl | h2)
            · exact hn (hF1.out k rfl)
            · omega)⟩
          exact h1.trans hc8 (fun j _ hj => by rw [hj]; exact h.out.fd)⟩
      go_wp2_with fail
      go_returns
      exact ⟨rfl, hfin.out⟩
end Go.Proofs.YtoaipjpbioaneaaGreat
