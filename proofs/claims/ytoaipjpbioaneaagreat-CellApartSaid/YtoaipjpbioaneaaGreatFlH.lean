/- undo. -/
import Derived.Test.YtoaipjpbioaneaaGreatFlG
namespace Go.Proofs.YtoaipjpbioaneaaGreat
open Go.RowKit Go.Shelf
attribute [local go_sem] Oper.semAt_some

theorem chg_put {S : Nat → Prop} {B : Nat} (hS : ∀ k, B ≤ k → S k) (W : World) (l : Nat) (o' : Obj) (hl : B ≤ l) : Chg S W (W.putObj l o') := by
  have h := grownBy_putObj' W l o'
  exact ⟨h.os, h.tape, h.output, h.size, fun k hk hn => h.block k hk (fun e => hn (hS k (by cases e; exact hl)))⟩
theorem chg_own {S : Nat → Prop} {w : World} {β : Type} : OwnFrom w.heap.size (fun (_ : β) W => Chg S w W) := fun _ X Y row hs hg hr => by
  refine ⟨hg.os.trans hs.os, hg.tape.trans hs.tape, hg.output.trans hs.output, Nat.le_trans hs.size hg.size, fun k hk hn => ?_⟩
  refine (hg.block k (Nat.lt_of_lt_of_le hk hs.size) (fun e => ?_)).trans (hs.block k hk hn)
  have := (hr k e.symm).1; omega
theorem row_own {w : World} {β : Type} {e : TypeId} {size n : Nat} {v : Value} (f : β → List Value) (hv : ∀ k, v.ownBlock = some k → k < w.heap.size) : OwnFrom w.heap.size (fun (b : β) W => Row W e size v n (f b)) := fun b X Y row hs hg hr =>
  hs.kept fun k hk => hg.block k (hs.lt k hk) (fun e => by have h1 := (hr k e.symm).1; have h2 := hv k hk; omega)
theorem keeps_chg {S : Nat → Prop} {B : Nat} {W W' : World} (hc : Chg S W W') (hn : ∀ (k : Nat) (o : Obj), W.heap[k]? = some o → o.isCells = false → ¬ S k) : KeepsFrom B W W' :=
  ⟨hc.size, fun k o _ hk ho => (hc.block k (Array.getElem?_eq_some_iff.1 hk).1 (hn k o hk ho)).trans hk⟩
theorem act_eq {F : Fence} {n : Nat} {P : Program} {c : Code} {Q : Exit → Act → World → Prop} {a a' : Act} {w : World} (h : a = a') (k : c.wpIn F n P Q a' w) : c.wpIn F n P Q a w := h ▸ k
theorem blk_own {w : World} {β : Type} {b : Nat} {cs : List Value} {t : TypeId} : OwnFrom w.heap.size (fun (_ : β) W => Blk W b cs t) := fun _ X Y row hs hg hr =>
  (hg.block b hs.lt (fun e => by
    obtain ⟨_, o, ho, hc⟩ := hr b e.symm
    have h2 : X.heap[b]? = some (.cells cs.toArray t (0, 0)) := hs
    rw [h2] at ho; cases ho; cases hc)).trans hs

set_option maxRecDepth 100000 in
set_option maxHeartbeats 4000000 in
theorem undo_in (bd : Nat) (F : Nat → Prop) (D : Dev) (w : World) (h : DAt w bd F D) (h0 : 0 < D.safe.length) (hws : D.ws.length ≤ 1000000)
    (g c : Nat) (pa : Option Addr) (pc : Nat) (hb : Blk w bd [.slice (some ⟨g, 0, none⟩) D.safe.length c, .slice pa D.ws.length pc, .int .i64 (D.taken : Int), .int .i64 (D.fall : Int), .bool D.off] 73)
    (hs : Row w 81 64 (.slice (some ⟨g, 0, none⟩) D.safe.length c) D.safe.length (secCells D.seen)) (hp : Row w 83 129 (.slice pa D.ws.length pc) D.ws.length (wrCells (pendW D.safe D.ws))) :
    CallsIn Fence.wide 9 Tryz.prog 37 #[.pointer (some ⟨bd, 0, none⟩)] w fun e W' => e = .returned (.tuple #[]) ∧ Row W' 81 64 (.slice (some ⟨g, 0, none⟩) D.safe.length c) D.safe.length (secCells D.safe) ∧ Chg (fun k => k = g ∨ w.heap.size ≤ k) w W' := by
  have hP : okK D.safe.length (pendW D.safe D.ws) := okK_pend _ _ h.ok.s h.ok.w rfl h0
  have hgl := hs.lt g rfl
  have hbl := hb.lt
  have hgb : g ≠ bd := by
    rintro rfl
    exact hs.apart hb (by decide) rfl
  obtain ⟨wb, hwb⟩ : ∃ wb, w.alloc (.cells #[.pointer (some ⟨bd, 0, none⟩)] 37) = wb := ⟨_, rfl⟩
  have hnb := Blk.new w [.pointer (some ⟨bd, 0, none⟩)] 37
  rw [hwb] at hnb
  have hcb : Chg (fun _ => False) w wb := hwb ▸ (Chg.refl _ _).alloc _
  have hzb : wb.heap.size = w.heap.size + 1 := by rw [← hwb]; simp
  obtain ⟨b1, hb1⟩ : ∃ b1, w.heap.size = b1 := ⟨_, rfl⟩
  rw [hb1] at hnb
  have c1 : wb.cell? ⟨b1, 0, none⟩ = some (.pointer (some ⟨bd, 0, none⟩)) := hnb.cell 0
  have cp : wb.cell? ⟨bd, 1, none⟩ = some (.slice pa D.ws.length pc) := (hcb.blk hb (fun h => h)).cell 1
  obtain ⟨wc, hwc⟩ : ∃ wc, wb.alloc (.cells #[.slice pa D.ws.length pc] 71) = wc := ⟨_, rfl⟩
  have hnc := Blk.new wb [.slice pa D.ws.length pc] 71
  rw [hwc] at hnc
  have hcc : Chg (fun _ => False) wb wc := hwc ▸ (Chg.refl _ _).alloc _
  have hzc : wc.heap.size = wb.heap.size + 1 := by rw [← hwc]; simp
  obtain ⟨b2, hb2⟩ : ∃ b2, wb.heap.size = b2 := ⟨_, rfl⟩
  rw [hb2] at hnc
  have hcw := hcb.trans hcc (fun _ _ h => h)
  have hB1 := Box.mk (hcc.blk hnb (fun h => h))
  have hBd := Box.mk (hcw.blk hb (fun h => h))
  have hS := Box.mk (hs.chg hcw (fun _ _ h => h))
  have hPr := Box.mk (hp.chg hcw (fun _ _ h => h))
  have hz : Box (wc.heap.size = b1 + 2 ∧ b2 = b1 + 1 ∧ w.heap.size = b1) := ⟨by omega⟩
  have hpS : Box (∀ k, (Value.slice pa D.ws.length pc).ownBlock = some k → ¬ (k = g ∨ wc.heap.size ≤ k)) := ⟨fun k hk hc => by
    have h1 := hp.lt k hk
    rcases hc with rfl | h2
    · exact hs.unlike hp (by decide) k rfl hk
    · omega⟩
  replace hgb := Box.mk hgb
  replace hnc := Box.mk hnc
  replace hcw := Box.mk hcw
  have hgl1 : Box (g < b1 ∧ bd < b1) := ⟨by omega⟩
  replace h := Box.mk h
  replace hP := Box.mk hP
  replace hws := Box.mk hws
  clear hcb hcc hzb hzc hb hs hp hnb hgl hbl
  refine callsIn_of_wp_marks Tryz.func37 rfl trivial ?_ rfl
  simp only [Tryz.ntmps37, List.size_toArray, List.length_cons, List.length_nil, Nat.reduceAdd, Nat.reduceSub, Array.replicate_succ, Array.replicate_zero, List.push_toArray, List.append_toArray, List.nil_append, List.cons_append]
  gi_wp2
  refine ⟨trivial, (back_in Fence.wide 8 trivial rfl _ _ _ _).mono ?_⟩
  rintro e w' ⟨rfl, hw'⟩
  rw [hwc] at hw'
  subst hw'
  rw [hb2]
  clear hwc hb2 hwb hb1 c1 cp
  gi_wp2
  have hc2 : w'.cell? ⟨b2, 0, none⟩ = some (.slice pa (pendW D.safe D.ws).length pc) := by rw [pendW_length]; exact hnc.out.cell 0
  refine wpIn_rangeFunc_ownH rfl (by omega) (gf := 89) (lb := #[.pointer (some ⟨b2, 0, none⟩)]) rfl trivial (enters_of Tryz.func89 (by kernel_rfl) rfl)
    (back_stops Fence.wide 8 trivial rfl (by omega) b2 D.safe.length pc pa (fun k => k = g ∨ w'.heap.size ≤ k) (pendW D.safe D.ws) hP.out (by rw [pendW_length]; exact hws.out) w' hc2 hnc.out.lt (by have h1 := hz.out; have h2 := hgl1.out; have h3 := hnc.out.lt; omega)
      (fun hpos => by
        rw [pendW_length] at hpos
        obtain ⟨b, c2, e2, hbl⟩ := hPr.out.some hpos
        cases e2
        exact ⟨b, rfl, hpS.out b rfl, Hold.of_row hPr.out⟩))
    (fun h k => h.trans k (fun _ _ h => h)) (fun W l _ o' hl _ _ _ => chg_put (fun k hk => .inr hk) W l o' hl) (Below.refl _ _) (fun _ => rfl)
    (fun pre W => Row W 81 64 (.slice (some ⟨g, 0, none⟩) D.safe.length c) D.safe.length (secCells (undoL D.seen pre)) ∧ Chg (fun k => k = g ∨ w'.heap.size ≤ k) w' W)
    (fun _ _ _ => False)
    (OwnFrom.and (row_own (fun pre => secCells (undoL D.seen pre)) (fun k hk => by have h1 := hz.out; have h2 := hgl1.out; simp [Value.ownBlock] at hk; omega)) chg_own)
    (fun _ _ _ _ _ hs _ _ => hs)
    ⟨hS.out, Chg.refl _ _⟩
    (fun x a' W => ∃ Bx, w'.heap.size ≤ Bx ∧ Blk W Bx (Wr.cells x.1.2) 83 ∧ a' = { tmps := #[.pointer (some ⟨bd, 0, none⟩), .pointer (some ⟨b1, 0, none⟩), undef, .pointer (some ⟨Bx, 0, none⟩), .pointer (some ⟨bd, 0, none⟩), .pointer (some ⟨bd, 0, none⟩), .pointer (some ⟨bd, 1, none⟩), .slice pa D.ws.length pc, .func (.func 89) #[] #[.pointer (some ⟨b2, 0, none⟩)], .int .i64 (x.1.1 : Int), .agg (Wr.cells x.1.2).toArray, undef, undef, undef, undef, undef, undef, undef, undef, undef], defers := [] })
    (fun x a' _ X Y row hs hg hr => by obtain ⟨Bx, h1, h2, h3⟩ := hs; exact ⟨Bx, h1, blk_own () X Y row h2 hg hr, h3⟩)
    ?assign ?body ?done ?stop
  case assign =>
    rintro l pre x W K ⟨hrow, hC⟩ hK
    obtain ⟨iW, zW, hiW, hzW, hiW1, hiW2, hLW⟩ := info_cells infoW
    have hxl : (Wr.cells x.1.2).length = 129 := Wr.cells_length _ x.2.2.1 x.2.2.2
    obtain ⟨W2, hr2, hl2⟩ := run_storeH (P := Tryz.prog) (w := W.alloc (.cells zeroW.toArray 83)) W.heap.size 0 83 83 zeroW (Wr.cells x.1.2) (Hold.of_blk (Blk.new W zeroW _)) (by rw [hxl, zeroW_length]; omega) (Wr.cells_one _) (by rw [sizeW, hxl])
    have hb2 := hl2.blk (Blk.new W zeroW _)
    rw [spl_full _ _ (by rw [hxl, zeroW_length])] at hb2
    have hW2 : Chg (fun k => k = W.heap.size) W W2 := (((Chg.refl (fun _ => False) W).alloc (.cells zeroW.toArray 83)).mono (T := fun k => k = W.heap.size) (fun _ _ h => h.elim)).trans hl2.chg (fun _ _ h => h)
    have hsW := hC.size
    have hgW := hrow.lt g rfl
    have hK2 := hK { tmps := #[.pointer (some ⟨bd, 0, none⟩), .pointer (some ⟨b1, 0, none⟩), undef, .pointer (some ⟨W.heap.size, 0, none⟩), .pointer (some ⟨bd, 0, none⟩), .pointer (some ⟨bd, 0, none⟩), .pointer (some ⟨bd, 1, none⟩), .slice pa D.ws.length pc, .func (.func 89) #[] #[.pointer (some ⟨b2, 0, none⟩)], .int .i64 (x.1.1 : Int), .agg (Wr.cells x.1.2).toArray, undef, undef, undef, undef, undef, undef, undef, undef, undef], defers := [] } W2
      (keeps_chg hW2 (fun k o hk _ e => by have := (Array.getElem?_eq_some_iff.1 hk).1; omega)) (hW2.mono (fun i _ hi => .inr (by omega)))
      ⟨hrow.chg hW2 (fun k hk e => by simp [Value.ownBlock] at hk; omega), hC.trans hW2 (fun i _ hi => .inr (by omega))⟩ ⟨W.heap.size, hsW, hb2, rfl⟩
    replace hK2 := Box.mk hK2
    replace hr2 := Box.mk hr2
    replace hiW := Box.mk (And.intro hiW (And.intro hzW hLW))
    clear hzW hiW1 hiW2 hLW hl2 hb2 hW2 hrow hC hK hsW hgW
    refine act_eq (a' := { tmps := #[.pointer (some ⟨bd, 0, none⟩), .pointer (some ⟨b1, 0, none⟩), undef, undef, .pointer (some ⟨bd, 0, none⟩), .pointer (some ⟨bd, 0, none⟩), .pointer (some ⟨bd, 1, none⟩), .slice pa D.ws.length pc, .func (.func 89) #[] #[.pointer (some ⟨b2, 0, none⟩)], .int .i64 (x.1.1 : Int), .agg (Wr.cells x.1.2).toArray, undef, undef, undef, undef, undef, undef, undef, undef, undef], defers := [] }) (by simp [pkEnc]) ?_
    gi_wp2_with (first
      | (refine wpListIn_value rfl rfl (exec_alloc _ 83 rfl iW zW zeroW hiW.out.1 hiW.out.2.1 hiW.out.2.2) ?_)
      | (refine wpListIn_none rfl rfl (exec_storeH _ 83 (.tmp 3) (.tmp 10) rfl W.heap.size 0 (Wr.cells x.1.2) rfl rfl W2 hr2.out) ?_))
    exact hK2.out
  case body =>
    rintro l pre x a' W hl hr ⟨hrow, hC⟩ ⟨Bx, hBx, hblk, rfl⟩ hlt
    have hz1 := hz.out
    have hg1 := hgl1.out
    have hB1W := Box.mk (hC.blk hB1.out (show ¬ (b1 = g ∨ w'.heap.size ≤ b1) by omega))
    have hBdW := Box.mk (hC.blk hBd.out (show ¬ (bd = g ∨ w'.heap.size ≤ bd) by have := hgb.out; omega))
    have hxb := x.2.2.1
    have hul : (undoL D.seen pre).length = D.safe.length := by rw [undoL_length]; exact Dev.ok.seen_len
    have hCW : Box (Chg (fun k => k = g) W W.drew) := ⟨(Chg.refl _ _).drew⟩
    have hgBx : Box (g ≠ Bx ∧ g ≠ bd ∧ g ≠ b1) := ⟨by have := hgb.out; omega⟩
    replace hxb := Box.mk hxb
    replace hrow := Box.mk hrow
    replace hC := Box.mk hC
    replace hblk := Box.mk hblk
    replace hul := Box.mk hul
    clear hz1 hg1 hr hl hlt
    obtain ⟨N, hN⟩ : ∃ N, D.safe.length = N := ⟨_, rfl⟩
    have hxN : x.1.2.at' < N := Nat.lt_of_lt_of_eq x.2.1 hN
    replace hN := Box.mk hN
    gi_wp2_with fail
    refine region_go_in (C := fun V => Chg (fun k => k = g) W V) rfl (by kernel_rfl) ?_
    refine go_calms [0, 1, 2, 3, 4, 5, 6, 7, 8] 1 rfl (by kernel_rfl) (by kernel_rfl) (by kernel_rfl) hCW.out ?_
    simp [nth]
    refine quiet_any rfl (.pointer (some ⟨bd, 0, none⟩)) (fun V hV => by
      have c9 : V.cell? ⟨b1, 0, none⟩ = some (.pointer (some ⟨bd, 0, none⟩)) := (hV.blk hB1W.out (fun h => hgBx.out.2.2 h.symm)).cell 0
      go_simp) ?_
    simp only [Act.put, List.setIfInBounds_toArray, List.set_cons_succ, List.set_cons_zero]
    repeat (go_big_quiet_step (first | exact fun _ => rfl | rfl))
    refine quiet_any rfl (.slice (some ⟨g, 0, none⟩) N c) (fun V hV => by
      have c9 : V.cell? ⟨bd, 0, none⟩ = some (.slice (some ⟨g, 0, none⟩) D.safe.length c) := (hV.blk hBdW.out (fun h => hgBx.out.2.1 h.symm)).cell 0
      rw [hN.out] at c9
      go_simp) ?_
    simp only [Act.put, List.setIfInBounds_toArray, List.set_cons_succ, List.set_cons_zero]
    repeat (go_big_quiet_step (first | exact fun _ => rfl | rfl))
    refine quiet_any rfl (.int .i64 (x.1.2.at' : Int)) (fun V hV => by
      have c9 : V.cell? ⟨Bx, 0, none⟩ = some (.int .i64 (x.1.2.at' : Int)) := (hV.blk hblk.out (fun h => hgBx.out.1 h.symm)).cell 0
      go_simp) ?_
    simp only [Act.put, List.setIfInBounds_toArray, List.set_cons_succ, List.set_cons_zero]
    repeat (go_big_quiet_step (first | exact fun _ => rfl | rfl))
    refine quiet_any rfl (.agg (x.1.2.bef.map yc).toArray) (fun V hV => by
      have hr := (Hold.of_blk (hV.blk hblk.out (fun h => hgBx.out.1 h.symm))).range 1 64
      rw [Wr.cells_bef _ hxb.out] at hr
      exact exec_load_mid _ 81 (.tmp 17) rfl Bx 1 rfl (x.1.2.bef.map yc) _ hr Tryz.underlying81 rfl (by rw [sizeS, List.length_map, hxb.out])) ?_
    simp only [Act.put, List.setIfInBounds_toArray, List.set_cons_succ, List.set_cons_zero]
    repeat (go_big_quiet_step (first | exact fun _ => rfl | rfl))
    refine wpQuiet_nil ?_
    refine go_forced 9 (by kernel_rfl) (goOp_wp 9 rfl rfl (fun K hK => ?_))
    refine wp_storeH 81 (.tmp 19) (.tmp 18) rfl g (x.1.2.at' * 64) 81 (secCells (undoL D.seen pre)) (x.1.2.bef.map yc) rfl rfl
      ((Hold.of_row hrow.out).chg (S := fun _ => False) ((Chg.refl _ _).drew) (fun h => h)) (by rw [List.length_map, hxb.out, secCells_length _ (undoL_ok h.out.ok.seen pre), hul.out]; have hlt := x.2.1; omega) (yc_one _) (by rw [sizeS, List.length_map, hxb.out]) ?_
    intro W2 hl2
    refine hK _ _ (hCW.out.trans hl2.chg (fun _ _ h => h)) ?_
    clear hK K
    refine go_done (by kernel_rfl) ?_
    have hWW : Chg (fun k => k = g) W W2 := hCW.out.trans hl2.chg (fun _ _ h => h)
    refine ⟨keeps_chg hWW (fun k o hk ho e => ?_), hWW.mono (fun i _ hi => .inl hi), ?_, hC.out.trans hWW (fun i _ hi => .inl hi)⟩
    · subst e
      obtain ⟨more, hg2⟩ := (Hold.of_row hrow.out).out
      rw [hg2] at hk
      cases hk
      cases ho
    · rw [undoL_snoc, ← secCells_set _ _ _ (undoL_ok h.out.ok.seen pre) hxb.out (by rw [hul.out]; exact x.2.1)]
      exact hl2.row _ _ _ (hrow.out.chg (S := fun _ => False) ((Chg.refl _ _).drew) (fun _ _ h => h))
  case done =>
    rintro D' ys W hD rfl ⟨hrow, hC⟩ hK
    rw [pendW_length] at hrow
    have e := undo_all D.safe D.ws h.out.ok.w hP.out D.ws.length (Nat.le_refl _)
    rw [Nat.sub_self, List.take_zero, runW_nil] at e
    have hfin : Row W 81 64 (.slice (some ⟨g, 0, none⟩) D.safe.length c) D.safe.length (secCells D.safe) := by
      have h2 := hrow
      unfold Dev.seen at h2
      rw [e] at h2
      exact h2
    have hD2 : Chg (fun k => k = g ∨ w.heap.size ≤ k) w (W.putObj D' (.deferred none)) := by
      have h1 := hcw.out.mono (T := fun k => k = g ∨ w.heap.size ≤ k) (fun _ _ h => h.elim)
      have h2 := h1.trans hC (fun i _ hi => hi.imp id (fun h => by have := hz.out; omega))
      exact h2.trans (chg_put (B := w'.heap.size) (S := fun k => w'.heap.size ≤ k) (fun k hk => hk) W D' _ hD) (fun i _ hi => .inr (by have := hz.out; omega))
    have hR2 : Row (W.putObj D' (.deferred none)) 81 64 (.slice (some ⟨g, 0, none⟩) D.safe.length c) D.safe.length (secCells D.safe) :=
      hfin.chg (chg_put (B := w'.heap.size) (S := fun k => w'.heap.size ≤ k) (fun k hk => hk) W D' (.deferred none) hD) (fun k hk h2 => by have h3 := hz.out; have h4 := hgl1.out; simp [Value.ownBlock] at hk; omega)
    replace hD2 := Box.mk hD2
    replace hR2 := Box.mk hR2
    clear hrow hC hfin e
    gi_wp2
    refine ⟨by simp, .inl ⟨_, _, rfl, run_takeDeferred hK, ?_⟩⟩
    exact ⟨_, results_none rfl _ _ _, rfl, hR2.out, hD2.out⟩
  case stop =>
    rintro D' c' pre W _ _ h _
    exact h.elim
end Go.Proofs.YtoaipjpbioaneaaGreat
