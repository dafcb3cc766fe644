/- Walk of note.Read. -/
import Derived.Test.YthnbhaffphopoaaGreatDoorHnj
namespace Go.Proofs.YthnbhaffphopoaaGreatDoor.Nt
open Go Go.RowKit

theorem st_eq {B C : World → Prop} (h : ∀ w, C w → B w) : St B (fun w w' => w = w') C := ⟨h, fun _ _ hC e => e ▸ hC⟩
def rdT (s : ByteArray) : ByteArray := match rdN s.data.toList with | some n => n.1 | none => ⟨#[]⟩
def rdG (s : ByteArray) : List (ByteArray × ByteArray) := match rdN s.data.toList with | some n => n.2 | none => []
def rdE (s : ByteArray) : Int := match rdN s.data.toList with | some _ => 0 | none => 3
/-- What Read answers: a note, the row of its signatures of the call's own. -/
def RdI (w0 : World) (s : ByteArray) (e : Ending) (w' : World) : Prop := ∃ v, e = .returned (.tuple #[.agg #[.string (rdT s), v], .int .i64 (rdE s)]) ∧ SgRow w0 w' v (rdG s)
theorem rd_none {s : ByteArray} (h : rdN s.data.toList = none) : rdT s = ⟨#[]⟩ ∧ rdG s = [] ∧ rdE s = 3 := by unfold rdT rdG rdE; rw [h]; exact ⟨rfl, rfl, rfl⟩
theorem rd_some {s : ByteArray} {n : ByteArray × List (ByteArray × ByteArray)} (h : rdN s.data.toList = some n) : rdT s = n.1 ∧ rdG s = n.2 ∧ rdE s = 0 := by unfold rdT rdG rdE; rw [h]; exact ⟨rfl, rfl, rfl⟩
/-- In Read: what it answers (a cell), the note that it reads, the row. -/
structure N2 (w0 : World) (bt : Nat) (t : ByteArray) (u v : Value) (sg : List (ByteArray × ByteArray)) (w : World) : Prop where
  b2 : Pk.Blk w w0.heap.size [.string ⟨#[]⟩, .slice none 0 0] 72
  b6 : Pk.Blk w bt [.string t, u] 72
  row : SgRow w0 w v sg
  lt : w0.heap.size < bt
theorem N2.on {w0 w w' : World} {bt : Nat} {t : ByteArray} {u v : Value} {sg : List (ByteArray × ByteArray)} (h : N2 w0 bt t u v sg w) (hb : Below w.heap.size w w') : N2 w0 bt t u v sg w' :=
  ⟨(hb.block _ h.b2.lt).trans h.b2, (hb.block _ h.b6.lt).trans h.b6, h.row.here hb, h.lt⟩
theorem N2.cells {w0 w : World} {bt : Nat} {t : ByteArray} {u v : Value} {sg : List (ByteArray × ByteArray)} (h : N2 w0 bt t u v sg w) : w.cell? ⟨bt, 0, none⟩ = some (.string t) ∧ w.cell? ⟨bt, 1, none⟩ = some u ∧
    w.cell? ⟨w0.heap.size, 0, none⟩ = some (.string ⟨#[]⟩) ∧ w.cell? ⟨w0.heap.size, 1, none⟩ = some (.slice none 0 0) ∧ w.frozen? ⟨w0.heap.size, 0, none⟩ = false ∧ w.frozen? ⟨w0.heap.size, 1, none⟩ = false :=
  ⟨h.b6.cell 0, h.b6.cell 1, h.b2.cell 0, h.b2.cell 1, h.b2.free 0, h.b2.free 1⟩
theorem Row_setCell {w : World} {e : TypeId} {size n b : Nat} {v : Value} {xs cs : List Value} {t : TypeId} (h : Pk.Row w e size v n xs) (hb : Pk.Blk w b cs t) (ht : t ≠ e) (j : Nat) (u : Value) : Pk.Row (w.setCell ⟨b, j, none⟩ u) e size v n xs := by
  have hap := h.apart hb ht
  exact h.chg ((Pk.Chg.refl (fun i => i = b) w).setCell (p := ⟨b, j, none⟩) rfl u) fun k hk e => hap (by rw [hk, e])
theorem SgRow.setCell {w0 w : World} {v : Value} {sg : List (ByteArray × ByteArray)} {b : Nat} {cs : List Value} {t : TypeId} (h : SgRow w0 w v sg) (hb : Pk.Blk w b cs t) (ht : t ≠ 78) (hB : w0.heap.size ≤ b) (j : Nat) (u : Value) : SgRow w0 (w.setCell ⟨b, j, none⟩ u) v sg :=
  ⟨Row_setCell h.row hb ht j u, h.own, h.bel.setCell (p := ⟨b, j, none⟩) hB u⟩
theorem N2.sto {w0 w : World} {bt : Nat} {t : ByteArray} {u v : Value} {sg : List (ByteArray × ByteArray)} (h : N2 w0 bt t u v sg w) (t' : ByteArray) (u' : Value) : N2 w0 bt t' u' v sg ((w.setCell ⟨bt, 0, none⟩ (.string t')).setCell ⟨bt, 1, none⟩ u') := by
  have hl := h.lt
  refine ⟨?_, (h.b6.setCell 0 (.string t')).setCell 1 u', (h.row.setCell h.b6 (by decide) (Nat.le_of_lt hl) 0 _).setCell (h.b6.setCell 0 _) (by decide) (Nat.le_of_lt hl) 1 _, hl⟩
  exact (Below.heap_setCell _ _ _ _ (by simp; omega)).trans ((Below.heap_setCell _ _ _ _ (by simp; omega)).trans h.b2)
theorem SgRow.base {w0 w1 w : World} {v : Value} {sg : List (ByteArray × ByteArray)} (h : SgRow w1 w v sg) (hb : Below w0.heap.size w0 w1) : SgRow w0 w v sg := ⟨h.row, fun k hk => Nat.le_trans hb.size (h.own k hk), mono_bel hb h.bel (Nat.le_refl _)⟩
/-- A region told from a class that need not be its base. -/
theorem region_steadyC {P : Program} (B C : World → Prop) (R : World → World → Prop) {id : Nat} {Q : Exit → Act → World → Prop} {a : Act} {w : World} {l : List Oper} (hm : P.follows .mixedOrders = true) (hC : C w.drew)
    (h : anyS P .any l.toArray B R (Q .normal) l.length (Array.replicate l.length false) a C) : (Code.region id l.toArray true).wp P Q a w := by
  refine wp_region_any hm ?_
  have h2 := any_of_S (fun _ _ h => h) _ _ _ _ _ hC h
  simpa using h2
def fin2 (w0 w : World) (a b : Value) : World := (w.setCell ⟨w0.heap.size, 0, none⟩ a).setCell ⟨w0.heap.size, 1, none⟩ b
theorem fin2_out {w0 w : World} {v : Value} {sg : List (ByteArray × ByteArray)} (hb : Pk.Blk w w0.heap.size [.string ⟨#[]⟩, .slice none 0 0] 72) (hR : SgRow w0 w v sg) (a b : Value) :
    (fin2 w0 w a b).cell? ⟨w0.heap.size, 0, none⟩ = some a ∧ (fin2 w0 w a b).cell? ⟨w0.heap.size, 1, none⟩ = some b ∧ SgRow w0 (fin2 w0 w a b) v sg := by
  have k : Pk.Blk (fin2 w0 w a b) w0.heap.size [a, b] 72 := (hb.setCell 0 a).setCell 1 b
  exact ⟨k.cell 0, k.cell 1, (hR.setCell hb (by decide) (Nat.le_refl _) 0 a).setCell (hb.setCell 0 a) (by decide) (Nat.le_refl _) 1 b⟩
theorem rdN_cand {s : ByteArray} {t : ByteArray} {sg : List (ByteArray × ByteArray)} (h : chkC gN byN s.data.toList (some (t, sg)) = rdN s.data.toList) : (gN (t, sg) = true → (⟨(byN (t, sg)).toArray⟩ : ByteArray) = s → rdN s.data.toList = some (t, sg)) ∧ ((gN (t, sg) = false ∨ (⟨(byN (t, sg)).toArray⟩ : ByteArray) ≠ s) → rdN s.data.toList = none) := by
  rw [← h]
  unfold chkC
  refine ⟨fun h1 h2 => ?_, fun h1 => ?_⟩
  · simp only [h1, ← h2, true_and]
    rw [if_pos trivial]
  · simp only
    rw [if_neg]
    rintro ⟨h2, h3⟩
    rcases h1 with h1 | h1
    · rw [h2] at h1; cases h1
    · exact h1 (ba_ext h3)
theorem rdsL_ZS : ∀ (n : Nat) (l : List UInt8), l.length ≤ 1073741824 → ZS (rdsL n l)
  | 0, _, _ => fun x hx => by cases hx
  | n + 1, l, h => by
    rw [rdsL]
    split
    · exact fun x hx => by cases hx
    · have h1 := cutL_len l nl
      intro x hx
      rcases List.mem_cons.1 hx with h2 | h2
      · have := rdS_size (Lib.cut l nl).1
        rw [h2]
        exact ⟨by omega, by omega⟩
      · exact rdsL_ZS n _ (by omega) x h2
theorem rdsL_len : ∀ (n : Nat) (l : List UInt8), (rdsL n l).length ≤ n
  | 0, _ => Nat.le_refl _
  | n + 1, l => by
    rw [rdsL]
    split
    · exact Nat.zero_le _
    · have := rdsL_len n (Lib.cut l nl).2.1; simp; omega
set_option maxHeartbeats 6400000 in
set_option maxRecDepth 100000 in
theorem read_any (s : ByteArray) (B : Nat) (w : World) (hL : NL B w) (hB : B ≤ w.heap.size) (hs : s.size ≤ 1073741824) :
    Calls Tryz.prog 29 #[.string s] w (RdI w s) := by
  obtain ⟨wa, hwa⟩ : ∃ wa, w.alloc (.cells #[.string ⟨#[]⟩, .slice none 0 0] 72) = wa := ⟨_, rfl⟩
  have hBa : Below w.heap.size w wa := by rw [← hwa]; exact bel_alloc _ _
  have hSa : Pk.Blk wa w.heap.size [.string ⟨#[]⟩, .slice none 0 0] 72 := by rw [← hwa]; exact Pk.Blk.new w _ _
  obtain ⟨k, hk⟩ := (hL.here hB hBa).m
  have hI := Tryz.strings_Index s ⟨#[10, 10]⟩ k wa (by omega) hk
  rw [show (⟨#[10, 10]⟩ : ByteArray).data.toList = nl2 from rfl] at hI
  have hpc : rdN s.data.toList = chkC gN byN s.data.toList (candP s.data.toList) := rfl
  unfold candP at hpc
  have hge := Lib.index_ge s.data.toList nl2
  have hrm := Lib.index_room s.data.toList nl2
  rw [show nl2.length = 2 from rfl, data_len] at hrm
  have hN0 : Box (SgRow w wa (.slice none 0 0) []) := ⟨⟨Pk.Row.nil _ _ _, (fun k hk => by cases hk), hBa⟩⟩
  have hLw := Box.mk hL
  have hBw := Box.mk hB
  replace hBa := Box.mk hBa
  replace hSa := Box.mk hSa
  obtain ⟨I, hIe⟩ : ∃ I, Lib.index s.data.toList nl2 = I := ⟨_, rfl⟩
  rw [hIe] at hI hpc hge hrm
  clear hk hL hB hIe
  obtain ⟨c0, c1, f0, f1⟩ : wa.cell? ⟨w.heap.size, 0, none⟩ = some (.string ⟨#[]⟩) ∧ wa.cell? ⟨w.heap.size, 1, none⟩ = some (.slice none 0 0) ∧ wa.frozen? ⟨w.heap.size, 0, none⟩ = false ∧ wa.frozen? ⟨w.heap.size, 1, none⟩ = false := ⟨hSa.out.cell 0, hSa.out.cell 1, hSa.out.free 0, hSa.out.free 1⟩
  by_cases h0 : I < 0
  · rw [if_pos h0] at hpc
    have hv := rd_none (s := s) hpc
    have hfin := Box.mk (fin2_out hSa.out hN0.out (.string ⟨#[]⟩) (.slice none 0 0))
    replace hv := Box.mk hv
    clear hpc hge hrm hLw hBw
    go_enter Tryz.func29, Tryz.ntmps29
    go_wp2_with fail
    refine hI.mono ?_
    clear hI hwa
    rintro e w1 ⟨rfl, hw1⟩
    obtain rfl : wa = w1 := hw1.symm
    go_wp2_with fail
    have hf := hfin.out
    unfold fin2 at hf
    obtain ⟨k0, k1, hbf⟩ := hf
    clear c0 c1 f0 f1
    refine bodyPost_ret (v := .tuple #[.agg #[.string ⟨#[]⟩, .slice none 0 0], .int .i64 3]) (by simp [results, Tryz.results29, go_sem, k0, k1]; try rfl) rfl ⟨_, by rw [hv.out.1, hv.out.2.2], by rw [hv.out.2.1]; exact hbf⟩
  · rw [if_neg h0] at hpc
    obtain ⟨i, rfl⟩ : ∃ i : Nat, I = (i : Int) := ⟨I.toNat, by omega⟩
    have hi2 : i + 2 ≤ s.size := by have := hrm (by omega); omega
    rw [Int.toNat_natCast] at hpc
    have hcd := rdN_cand hpc.symm
    have hZ := rdsL_ZS 17 (s.data.toList.drop (i + 2)) (by rw [List.length_drop, data_len]; omega)
    have hLn := rdsL_len 17 (s.data.toList.drop (i + 2))
    have e1 : (⟨(s.data.toList.take (i + 1)).toArray⟩ : ByteArray) = s.extract 0 (i + 1) := ba_ext (by rw [Lib.extract_from_zero])
    have e2 : (s.extract (i + 2) s.size).data.toList = s.data.toList.drop (i + 2) := Lib.extract_to_end _ _
    rw [e1] at hcd
    rw [← e2] at hcd hZ hLn
    obtain ⟨Y, hY⟩ : ∃ Y, s.extract (i + 2) s.size = Y := ⟨_, rfl⟩
    obtain ⟨X, hX⟩ : ∃ X, s.extract 0 (i + 1) = X := ⟨_, rfl⟩
    have hYz : Y.size ≤ 1073741824 := by rw [← hY, ByteArray.size_extract]; omega
    have hXz : X.size ≤ 1073741824 := by rw [← hX, ByteArray.size_extract]; omega
    rw [hX, hY] at hcd
    rw [hY] at hZ hLn
    have hRs := Box.mk (fun w' (h : Below w.heap.size w w') => readsigs_any Y B w' (hLw.out.here hBw.out h) (Nat.le_trans hBw.out h.size) hYz)
    obtain ⟨sg, hsg⟩ : ∃ sg, rdsL 17 Y.data.toList = sg := ⟨_, rfl⟩
    rw [hsg] at hcd hZ hLn hRs
    have hFm := Box.mk (fun w' v (h : SgRow w w' v sg) => show ∃ a c, v = .slice a sg.length c ∧ Calls Tryz.prog 78 #[.agg #[.string X, .slice a sg.length c]] w' fun e w'' => e = .returned (fmV (X, sg)) ∧ Below w'.heap.size w' w'' by
      obtain ⟨a, c, rfl⟩ := h.row.shape
      exact ⟨a, c, rfl, format_any X a sg.length c sg B w' (hLw.out.here hBw.out h.bel) (Nat.le_trans hBw.out h.bel.size) hXz h.sigs rfl (by omega) hZ⟩)
    replace hcd := Box.mk hcd
    clear hpc hge hrm hLw hBw e1 e2 hYz hXz hsg hZ hLn hN0 c0 c1 f0 f1
    go_enter Tryz.func29, Tryz.ntmps29
    go_wp2_with fail
    refine hI.mono ?_
    clear hI hwa
    rintro e w1 ⟨rfl, hw1⟩
    obtain rfl : wa = w1 := hw1.symm
    go_wp2_with fail
    refine region_steadyC (fun _ => True) (PC wa) (fun w w' => w = w') rfl (dB wa) ?_
    refine anyS_calms [0, 1, 2, 3, 4, 5, 6, 7] 4 rfl (fun _ => rfl) (st_eq fun _ _ => trivial) (by kernel_rfl) (by kernel_rfl) (by kernel_rfl) ?_
    simp [nth]
    try simp only [Act.put, List.setIfInBounds_toArray, List.set_cons_succ, List.set_cons_zero]
    repeat (go_big_quiet_step (first | exact fun _ => rfl | rfl))
    rw [hY]
    refine wpQuiet_nil ?_
    refine anyS_fork 8 10 (by kernel_rfl) rfl rfl rfl rfl (fun wb hWb K hK => ?_) (fun wb hWb K hK => ?_)
    · have hF := hRs.out wb (mono_bel hBa.out hWb (Nat.le_refl _))
      go_simp
      refine hF.mono ?_
      rintro e wc ⟨v, rfl, hR0⟩
      have hR : SgRow w wc v sg := hR0.base (mono_bel hBa.out hWb (Nat.le_refl _))
      have hb2 : Box (Pk.Blk wc w.heap.size [.string ⟨#[]⟩, .slice none 0 0] 72) := ⟨(hR0.bel.block _ (Nat.lt_of_lt_of_le hSa.out.lt hWb.size)).trans ((hWb.block _ hSa.out.lt).trans hSa.out)⟩
      obtain ⟨a7, c7, rfl⟩ := hR.row.shape
      obtain ⟨n7, hn7⟩ : ∃ n, sg.length = n := ⟨_, rfl⟩
      have hRb := Box.mk hR
      rw [hn7] at hRb
      rw [hn7]
      replace hn7 := Box.mk hn7
      refine hK _ _ (fun w' => w' = wc) (st_eq fun _ _ => trivial) rfl ?_
      clear hK K hF hWb hR0 hR hRs
      refine anyS_calms [9] 2 rfl (fun _ => rfl) (st_eq fun _ _ => trivial) (by kernel_rfl) (by kernel_rfl) (by kernel_rfl) ?_
      simp [nth]
      try simp only [Act.put, List.setIfInBounds_toArray, List.set_cons_succ, List.set_cons_zero]
      repeat (go_big_quiet_step (first | exact fun _ => rfl | rfl))
      refine wpQuiet_nil ?_
      refine anyS_forced 10 (by kernel_rfl) rfl rfl (fun wx hWx K hK => ?_)
      subst hWx
      have hN : N2 w wx.heap.size ⟨#[]⟩ (.slice none 0 0) (.slice a7 n7 c7) sg (wx.alloc (.cells #[.string ⟨#[]⟩, .slice none 0 0] 72)) := ⟨((bel_alloc wx _).block _ (Pk.Blk.lt hb2.out)).trans hb2.out, Pk.Blk.new wx [.string ⟨#[]⟩, .slice none 0 0] _, hRb.out.here (bel_alloc wx _), Pk.Blk.lt hb2.out⟩
      go_simp
      refine hK _ _ (N2 w wx.heap.size ⟨#[]⟩ (.slice none 0 0) (.slice a7 n7 c7) sg) (st_eq fun _ _ => trivial) hN ?_
      clear hK K hN hRb hb2
      generalize wx.heap.size = bt
      clear wx
      refine anyS_last 11 (by kernel_rfl) rfl rfl (by kernel_rfl) (by kernel_rfl) (fun wd hWd K hK => ?_)
      have hQz := Box.mk hWd
      have hQ := Box.mk (hQz.out.sto X (.slice a7 n7 c7))
      have q0 := hQz.out.cells.1
      have q1 := hQz.out.cells.2.1
      have f0 := hQz.out.b6.free 0
      have f1 := hQz.out.b6.free 1
      clear hWd
      go_simp
      refine hK _ _ ?_
      clear hK K q0 q1 f0 f1 hQz
      generalize ((wd.setCell ⟨bt, 0, none⟩ (.string X)).setCell ⟨bt, 1, none⟩ (.slice a7 n7 c7)) = wq at hQ ⊢
      clear wd
      obtain ⟨a0, a1, c0, c1, f0, f1⟩ := hQ.out.cells
      obtain ⟨a8, c8, e8, hF⟩ := hFm.out wq _ hQ.out.row
      rw [hn7.out] at e8 hF
      cases e8
      clear hFm
      cases hg : gN (X, sg) with
      | false =>
        have hv := Box.mk (rd_none (hcd.out.2 (.inl hg)))
        rw [fmV_no hg] at hF
        clear hcd hg
        go_wp2_with fail
        refine hF.mono ?_
        clear hF a0 a1 c0 c1 f0 f1
        rintro e w5 ⟨rfl, hb5⟩
        replace hQ := Box.mk (hQ.out.on hb5)
        obtain ⟨a0, a1, c0, c1, f0, f1⟩ := hQ.out.cells
        clear hb5
        go_wp2_with fail
        have hN0 : SgRow w w5 (.slice none 0 0) [] := ⟨Pk.Row.nil _ _ _, (fun k hk => by cases hk), hQ.out.row.bel⟩
        have hf := fin2_out hQ.out.b2 hN0 (.string ⟨#[]⟩) (.slice none 0 0)
        unfold fin2 at hf
        obtain ⟨k0, k1, hbf⟩ := hf
        clear c0 c1 f0 f1 a0 a1
        refine bodyPost_ret (v := .tuple #[.agg #[.string ⟨#[]⟩, .slice none 0 0], .int .i64 3]) (by simp [results, Tryz.results29, go_sem, k0, k1]; try rfl) rfl ⟨_, by rw [hv.out.1, hv.out.2.2], by rw [hv.out.2.1]; exact hbf⟩
      | true =>
        rw [fmV_yes hg] at hF
        obtain ⟨T, hT⟩ : ∃ T : ByteArray, (⟨(byN (X, sg)).toArray⟩ : ByteArray) = T := ⟨_, rfl⟩
        rw [hT] at hF hcd
        have hqs := tl_eq T s
        by_cases he : T = s
        · have hv := Box.mk (rd_some (hcd.out.1 hg he))
          simp only at hv
          have hq2 : (T.toList != s.toList) = false := by rw [bne, hqs, decide_eq_true he]; rfl
          rw [decide_eq_true he] at hqs
          clear hcd hg hT he
          go_wp2_with fail
          refine hF.mono ?_
          clear hF a0 a1 c0 c1 f0 f1
          rintro e w5 ⟨rfl, hb5⟩
          replace hQ := Box.mk (hQ.out.on hb5)
          obtain ⟨a0, a1, c0, c1, f0, f1⟩ := hQ.out.cells
          clear hb5
          go_wp2_with fail
          have hf := fin2_out hQ.out.b2 hQ.out.row (.string X) (.slice a7 n7 c7)
          unfold fin2 at hf
          obtain ⟨k0, k1, hbf⟩ := hf
          clear c0 c1 f0 f1 a0 a1
          refine bodyPost_ret (v := .tuple #[.agg #[.string X, .slice a7 n7 c7], .int .i64 0]) (by simp [results, Tryz.results29, go_sem, k0, k1]; try rfl) rfl ⟨_, by rw [hv.out.1, hv.out.2.2], by rw [hv.out.2.1]; exact hbf⟩
        · have hv := Box.mk (rd_none (hcd.out.2 (.inr he)))
          have hq2 : (T.toList != s.toList) = true := by rw [bne, hqs, decide_eq_false he]; rfl
          rw [decide_eq_false he] at hqs
          clear hcd hg hT he
          go_wp2_with fail
          refine hF.mono ?_
          clear hF a0 a1 c0 c1 f0 f1
          rintro e w5 ⟨rfl, hb5⟩
          replace hQ := Box.mk (hQ.out.on hb5)
          obtain ⟨a0, a1, c0, c1, f0, f1⟩ := hQ.out.cells
          clear hb5
          go_wp2_with fail
          have hN0 : SgRow w w5 (.slice none 0 0) [] := ⟨Pk.Row.nil _ _ _, (fun k hk => by cases hk), hQ.out.row.bel⟩
          have hf := fin2_out hQ.out.b2 hN0 (.string ⟨#[]⟩) (.slice none 0 0)
          unfold fin2 at hf
          obtain ⟨k0, k1, hbf⟩ := hf
          clear c0 c1 f0 f1 a0 a1
          refine bodyPost_ret (v := .tuple #[.agg #[.string ⟨#[]⟩, .slice none 0 0], .int .i64 3]) (by simp [results, Tryz.results29, go_sem, k0, k1]; try rfl) rfl ⟨_, by rw [hv.out.1, hv.out.2.2], by rw [hv.out.2.1]; exact hbf⟩
    · go_simp
      refine hK _ _ (PK wa wb.heap.size [.string ⟨#[]⟩, .slice none 0 0] 72) (st_eq fun _ _ => trivial) (PK.new hWb _ _) ?_
      clear hK K hWb
      generalize wb.heap.size = bt
      clear wb
      refine anyS_forced 8 (by kernel_rfl) rfl rfl (fun wb hWb K hK => ?_)
      obtain ⟨hWb1, hWb2, hWb3⟩ := hWb
      have hF := hRs.out wb (mono_bel hBa.out hWb1 (Nat.le_refl _))
      go_simp
      refine hF.mono ?_
      rintro e wc ⟨v, rfl, hR0⟩
      have hR : SgRow w wc v sg := hR0.base (mono_bel hBa.out hWb1 (Nat.le_refl _))
      have hb2 : Pk.Blk wc w.heap.size [.string ⟨#[]⟩, .slice none 0 0] 72 := (hR0.bel.block _ (Nat.lt_of_lt_of_le hSa.out.lt hWb1.size)).trans ((hWb1.block _ hSa.out.lt).trans hSa.out)
      have hb6 : Pk.Blk wc bt [.string ⟨#[]⟩, .slice none 0 0] 72 := (hR0.bel.block _ hWb2.lt).trans hWb2
      have hlt : w.heap.size < bt := Nat.lt_of_lt_of_le hSa.out.lt hWb3
      obtain ⟨a7, c7, rfl⟩ := hR.row.shape
      obtain ⟨n7, hn7⟩ : ∃ n, sg.length = n := ⟨_, rfl⟩
      have hRb := Box.mk hR
      rw [hn7] at hRb
      rw [hn7]
      replace hn7 := Box.mk hn7
      have hN : N2 w bt ⟨#[]⟩ (.slice none 0 0) (.slice a7 n7 c7) sg wc := ⟨hb2, hb6, hRb.out, hlt⟩
      refine hK _ _ (N2 w bt ⟨#[]⟩ (.slice none 0 0) (.slice a7 n7 c7) sg) (st_eq fun _ _ => trivial) hN ?_
      clear hK K hF hWb1 hWb2 hWb3 hR0 hR hRs hN hb2 hb6 hlt hRb
      refine anyS_calms [9] 1 rfl (fun _ => rfl) (st_eq fun _ _ => trivial) (by kernel_rfl) (by kernel_rfl) (by kernel_rfl) ?_
      simp [nth]
      try simp only [Act.put, List.setIfInBounds_toArray, List.set_cons_succ, List.set_cons_zero]
      repeat (go_big_quiet_step (first | exact fun _ => rfl | rfl))
      refine wpQuiet_nil ?_
      refine anyS_last 11 (by kernel_rfl) rfl rfl (by kernel_rfl) (by kernel_rfl) (fun wd hWd K hK => ?_)
      have hQz := Box.mk hWd
      have hQ := Box.mk (hQz.out.sto X (.slice a7 n7 c7))
      have q0 := hQz.out.cells.1
      have q1 := hQz.out.cells.2.1
      have f0 := hQz.out.b6.free 0
      have f1 := hQz.out.b6.free 1
      clear hWd
      go_simp
      refine hK _ _ ?_
      clear hK K q0 q1 f0 f1 hQz
      generalize ((wd.setCell ⟨bt, 0, none⟩ (.string X)).setCell ⟨bt, 1, none⟩ (.slice a7 n7 c7)) = wq at hQ ⊢
      clear wd
      obtain ⟨a0, a1, c0, c1, f0, f1⟩ := hQ.out.cells
      obtain ⟨a8, c8, e8, hF⟩ := hFm.out wq _ hQ.out.row
      rw [hn7.out] at e8 hF
      cases e8
      clear hFm
      cases hg : gN (X, sg) with
      | false =>
        have hv := Box.mk (rd_none (hcd.out.2 (.inl hg)))
        rw [fmV_no hg] at hF
        clear hcd hg
        go_wp2_with fail
        refine hF.mono ?_
        clear hF a0 a1 c0 c1 f0 f1
        rintro e w5 ⟨rfl, hb5⟩
        replace hQ := Box.mk (hQ.out.on hb5)
        obtain ⟨a0, a1, c0, c1, f0, f1⟩ := hQ.out.cells
        clear hb5
        go_wp2_with fail
        have hN0 : SgRow w w5 (.slice none 0 0) [] := ⟨Pk.Row.nil _ _ _, (fun k hk => by cases hk), hQ.out.row.bel⟩
        have hf := fin2_out hQ.out.b2 hN0 (.string ⟨#[]⟩) (.slice none 0 0)
        unfold fin2 at hf
        obtain ⟨k0, k1, hbf⟩ := hf
        clear c0 c1 f0 f1 a0 a1
        refine bodyPost_ret (v := .tuple #[.agg #[.string ⟨#[]⟩, .slice none 0 0], .int .i64 3]) (by simp [results, Tryz.results29, go_sem, k0, k1]; try rfl) rfl ⟨_, by rw [hv.out.1, hv.out.2.2], by rw [hv.out.2.1]; exact hbf⟩
      | true =>
        rw [fmV_yes hg] at hF
        obtain ⟨T, hT⟩ : ∃ T : ByteArray, (⟨(byN (X, sg)).toArray⟩ : ByteArray) = T := ⟨_, rfl⟩
        rw [hT] at hF hcd
        have hqs := tl_eq T s
        by_cases he : T = s
        · have hv := Box.mk (rd_some (hcd.out.1 hg he))
          simp only at hv
          have hq2 : (T.toList != s.toList) = false := by rw [bne, hqs, decide_eq_true he]; rfl
          rw [decide_eq_true he] at hqs
          clear hcd hg hT he
          go_wp2_with fail
          refine hF.mono ?_
          clear hF a0 a1 c0 c1 f0 f1
          rintro e w5 ⟨rfl, hb5⟩
          replace hQ := Box.mk (hQ.out.on hb5)
          obtain ⟨a0, a1, c0, c1, f0, f1⟩ := hQ.out.cells
          clear hb5
          go_wp2_with fail
          have hf := fin2_out hQ.out.b2 hQ.out.row (.string X) (.slice a7 n7 c7)
          unfold fin2 at hf
          obtain ⟨k0, k1, hbf⟩ := hf
          clear c0 c1 f0 f1 a0 a1
          refine bodyPost_ret (v := .tuple #[.agg #[.string X, .slice a7 n7 c7], .int .i64 0]) (by simp [results, Tryz.results29, go_sem, k0, k1]; try rfl) rfl ⟨_, by rw [hv.out.1, hv.out.2.2], by rw [hv.out.2.1]; exact hbf⟩
        · have hv := Box.mk (rd_none (hcd.out.2 (.inr he)))
          have hq2 : (T.toList != s.toList) = true := by rw [bne, hqs, decide_eq_false he]; rfl
          rw [decide_eq_false he] at hqs
          clear hcd hg hT he
          go_wp2_with fail
          refine hF.mono ?_
          clear hF a0 a1 c0 c1 f0 f1
          rintro e w5 ⟨rfl, hb5⟩
          replace hQ := Box.mk (hQ.out.on hb5)
          obtain ⟨a0, a1, c0, c1, f0, f1⟩ := hQ.out.cells
          clear hb5
          go_wp2_with fail
          have hN0 : SgRow w w5 (.slice none 0 0) [] := ⟨Pk.Row.nil _ _ _, (fun k hk => by cases hk), hQ.out.row.bel⟩
          have hf := fin2_out hQ.out.b2 hN0 (.string ⟨#[]⟩) (.slice none 0 0)
          unfold fin2 at hf
          obtain ⟨k0, k1, hbf⟩ := hf
          clear c0 c1 f0 f1 a0 a1
          refine bodyPost_ret (v := .tuple #[.agg #[.string ⟨#[]⟩, .slice none 0 0], .int .i64 3]) (by simp [results, Tryz.results29, go_sem, k0, k1]; try rfl) rfl ⟨_, by rw [hv.out.1, hv.out.2.2], by rw [hv.out.2.1]; exact hbf⟩
end Go.Proofs.YthnbhaffphopoaaGreatDoor.Nt
