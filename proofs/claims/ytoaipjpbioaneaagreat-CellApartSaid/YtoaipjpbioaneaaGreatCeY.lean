/- Walks of a copy's sectors: a text laid over them. -/
import Derived.Test.YtoaipjpbioaneaaGreatCeQ
namespace Go.Proofs.YtoaipjpbioaneaaGreat
open Go.RowKit Go.Maps

theorem below_drewN (B : Nat) (w : World) (n : Nat) : Below B w (w.drewN n) := ⟨rfl, rfl, rfl, Nat.le_refl _, fun _ _ => rfl⟩
theorem DNext.trans {w w1 w2 : World} {bd : Nat} {F : Nat → Prop} {D1 D2 : Dev} (h1 : DNext w bd F D1 w1) (h2 : DNext w1 bd (fun k => F k ∨ (w.heap.size ≤ k ∧ k < w1.heap.size)) D2 w2) : DNext w bd F D2 w2 := by
  have s1 := h1.chg.size
  have s2 := h2.chg.size
  have hl := h1.at_.lt
  refine ⟨h2.at_.wide (fun k hk => ?_) (fun k hk => ?_), h1.chg.trans h2.chg (fun i hi hk => ?_)⟩
  · rcases hk with (hk | hk) | hk
    · exact .inl hk
    · exact .inr ⟨hk.1, Nat.lt_of_lt_of_le hk.2 s2⟩
    · exact .inr ⟨Nat.le_trans s1 hk.1, hk.2⟩
  · rcases hk with hk | hk
    · have := hl k (.inl hk); omega
    · exact hk.2
  · rcases hk with hk | hk
    · exact hk
    · omega
theorem DNext.grow {w w' : World} {bd : Nat} {F : Nat → Prop} {D : Dev} (h : DAt w bd F D) (hb : Below w.heap.size w w') : DNext w bd F D w' :=
  ⟨(h.below hb).wide (fun _ hk => .inl hk) fun k hk => by
    rcases hk with hk | hk
    · exact Nat.lt_of_lt_of_le (h.lt k hk) hb.size
    · exact hk.2, (Chg.of_below hb).mono fun i hi hk => by omega⟩
theorem DNext.from_ {w w1 w2 : World} {bd : Nat} {F : Nat → Prop} {D2 : Dev} (hb : Below w.heap.size w w1) (h2 : DNext w1 bd F D2 w2) : DNext w bd F D2 w2 := by
  have s1 := hb.size
  have hl := h2.at_.lt
  have hc := h2.chg.size
  refine ⟨h2.at_.wide (fun k hk => ?_) (fun k hk => ?_), ((Chg.of_below hb).mono (T := F) (fun i hi hk => by omega)).trans h2.chg (fun _ _ hk => hk)⟩
  · rcases hk with hk | hk
    · exact .inl hk
    · exact .inr ⟨by omega, hk.2⟩
  · rcases hk with hk | hk
    · exact hl k (.inl hk)
    · exact hk.2
theorem write_grow (D : Dev) (n : Int) (t : Bs) : (D.write n t).taken ≤ D.taken + 1 ∧ (D.write n t).fall ≤ D.fall ∧ (D.write n t).ws.length ≤ D.ws.length + 1 := by
  unfold Dev.write Dev.stepD
  repeat' split
  all_goals first | exact ⟨Nat.le_succ _, Nat.le_refl _, Nat.le_succ _⟩ | (simp; done) | (simp; omega)
/-- Where laying stands: j pieces are written. -/
structure LMid (w1 : World) (bd : Nat) (F : Nat → Prop) (D : Dev) (t : Bs) (a j : Nat) (D' : Dev) (wr : World) : Prop where
  next : DNext w1 bd F D' wr
  taken : D'.taken ≤ D.taken + j
  fall : D'.fall ≤ D.fall
  ws : D'.ws.length ≤ D.ws.length + j
  go : layM (cut (t.length - j) (t.drop (64 * j))) D' (a + j) = layM (cut t.length t) D a
theorem LMid.step {w1 wr w' : World} {bd : Nat} {F : Nat → Prop} {D D' : Dev} {t : Bs} {a j : Nat} (h : LMid w1 bd F D t a j D' wr) (hne : t.drop (64 * j) ≠ []) (hz : D'.writeE ((a + j : Nat) : Int) ((t.drop (64 * j)).take 64) = 0)
    (hN : DNext w1 bd F (D'.write ((a + j : Nat) : Int) ((t.drop (64 * j)).take 64)) w') : LMid w1 bd F D t a (j + 1) (D'.write ((a + j : Nat) : Int) ((t.drop (64 * j)).take 64)) w' := by
  obtain ⟨g1, g2, g3⟩ := write_grow D' ((a + j : Nat) : Int) ((t.drop (64 * j)).take 64)
  have hlen : 64 * j < t.length := by
    rcases Nat.lt_or_ge (64 * j) t.length with h1 | h1
    · exact h1
    · exact absurd (List.drop_of_length_le h1) hne
  refine ⟨hN, by have := h.taken; omega, Nat.le_trans g2 h.fall, by have := h.ws; omega, ?_⟩
  rw [← h.go, show t.length - j = (t.length - (j + 1)) + 1 by omega, cut, if_neg hne, layM, if_pos hz, List.drop_drop, show 64 * j + 64 = 64 * (j + 1) by omega, show a + (j + 1) = a + j + 1 by omega]
theorem LMid.stop {w1 wr : World} {bd : Nat} {F : Nat → Prop} {D D' : Dev} {t : Bs} {a j : Nat} (h : LMid w1 bd F D t a j D' wr) (hne : t.drop (64 * j) ≠ []) (hz : D'.writeE ((a + j : Nat) : Int) ((t.drop (64 * j)).take 64) ≠ 0) :
    layM (cut t.length t) D a = (D'.writeE ((a + j : Nat) : Int) ((t.drop (64 * j)).take 64), D'.write ((a + j : Nat) : Int) ((t.drop (64 * j)).take 64)) := by
  have hlen : 64 * j < t.length := by
    rcases Nat.lt_or_ge (64 * j) t.length with h1 | h1
    · exact h1
    · exact absurd (List.drop_of_length_le h1) hne
  rw [← h.go, show t.length - j = (t.length - (j + 1)) + 1 by omega, cut, if_neg hne, layM, if_neg hz]
theorem LMid.last {w1 wr : World} {bd : Nat} {F : Nat → Prop} {D D' : Dev} {t : Bs} {a j : Nat} (h : LMid w1 bd F D t a j D' wr) (hne : t.drop (64 * j) = []) : layM (cut t.length t) D a = (D'.barrierE, D'.barrier) := by
  rw [← h.go, hne, cut_nil, layM]

set_option maxHeartbeats 6400000 in
set_option maxRecDepth 100000 in
theorem lay_any (bd : Nat) (F : Nat → Prop) (D : Dev) (at_ n : Nat) (t : Bs) (q : Int) (w : World) (h : DAt w bd F D) (hk : D.taken + t.length ≤ 999999) (hf : D.fall ≤ 9223372036854775807) (hws : D.ws.length + t.length ≤ 999999) (hfit : at_ + n ≤ 100000) :
    Calls Tryz.prog 62 #[.agg #[.pointer (some ⟨bd, 0, none⟩), .int .i64 (at_ : Int), .int .i64 q], .int .i64 (n : Int), .string (btx t)] w fun e w' => e = .returned (.int .i64 (layM (cut t.length t) D (at_ + n)).1) ∧ Box (DNext w bd F (layM (cut t.length t) D (at_ + n)).2 w') := by
  obtain ⟨w1, hw1⟩ : ∃ w1, w.alloc (.cells #[.pointer (some ⟨bd, 0, none⟩), .int .i64 (at_ : Int), .int .i64 q] 67) = w1 := ⟨_, rfl⟩
  obtain ⟨bp, hbp⟩ : ∃ bp, w.heap.size = bp := ⟨_, rfl⟩
  have hP1 : Box (Blk w1 bp [.pointer (some ⟨bd, 0, none⟩), .int .i64 (at_ : Int), .int .i64 q] 67) := ⟨by
    rw [← hw1, ← hbp]; exact Blk.new w _ _⟩
  have hB1 : Box (Below w.heap.size w w1) := ⟨by rw [← hw1]; exact (Below.refl _ _).alloc (Nat.le_refl _) _⟩
  have hbF : Box (¬ F bp) := ⟨fun hh => by have := h.lt bp hh; omega⟩
  have hL0 : Box (LMid w1 bd F D t (at_ + n) 0 D w1) := ⟨⟨DNext.same (h.below hB1.out), by omega, Nat.le_refl _, by omega, by simp⟩⟩
  replace h := Box.mk h
  go_enter Tryz.func62, Tryz.ntmps62
  go_wp2_with fail
  clear hw1
  go_loopw [1, 2] (fun s1 s2 wr => ∃ (j : Nat) (D' : Dev), 64 * j ≤ t.length + 63 ∧ s1 = .int .i64 ((n : Int) + (j : Int)) ∧ s2 = .string (btx (t.drop (64 * j))) ∧ Box (LMid w1 bd F D t (at_ + n) j D' wr)) (fun s1 _ _ => n + t.length - (intOf s1).toNat)
  case atStart => exact ⟨0, D, by omega, by simp, by simp, hL0⟩
  case round =>
    clear hL0
    obtain ⟨j, D', hj, rfl, rfl, hL⟩ := hrel
    obtain ⟨l, hl⟩ : ∃ l, t.drop (64 * j) = l := ⟨_, rfl⟩
    have hcell : ∀ i u, ([.pointer (some ⟨bd, 0, none⟩), .int .i64 (at_ : Int), .int .i64 q] : List Value)[i]? = some u → wr.cell? ⟨bp, i, none⟩ = some u := fun i u hu => by
      have := hL.out.next.chg.blk hP1.out hbF.out
      rw [this.cell i]; exact hu
    have c0 : wr.cell? ⟨bp, 0, none⟩ = some (.pointer (some ⟨bd, 0, none⟩)) := hcell 0 _ rfl
    have c1 : wr.cell? ⟨bp, 1, none⟩ = some (.int .i64 (at_ : Int)) := hcell 1 _ rfl
    clear hcell
    rw [hl]
    by_cases hne : l = []
    · have he : (btx l).toList.isEmpty = true := by rw [btx_toList, hne]; rfl
      have hlast : Box (layM (cut t.length t) D (at_ + n) = (D'.barrierE, D'.barrier)) := ⟨hL.out.last (hl.trans hne)⟩
      have hBr := Box.mk (barrier_any bd _ D' wr hL.out.next.at_ (by have := hL.out.taken; omega) (Nat.le_trans hL.out.fall hf))
      replace hl := Box.mk hl
      replace hne := Box.mk hne
      go_wp2_with fail
      refine hBr.out.mono ?_
      rintro e w' ⟨rfl, hN⟩
      have hR : Box (DNext w bd F D'.barrier w') := ⟨DNext.from_ hB1.out (hL.out.next.trans hN)⟩
      clear hN hBr hL c0 c1
      go_wp2_with fail
      go_returns
      rw [hlast.out]
      exact ⟨rfl, hR⟩
    · have he : (btx l).toList.isEmpty = false := by rw [btx_toList]; simpa using hne
      obtain ⟨m, hm⟩ : ∃ m, min l.length 64 = m := ⟨_, rfl⟩
      have hm1 : m ≤ l.length := by omega
      have hm0 : 1 ≤ m := by have := List.length_pos_iff.2 hne; omega
      have hmn : Box ((if (64 : Int) < (l.length : Int) then 64 else (l.length : Int)) = (m : Int)) := ⟨by split <;> omega⟩
      have hsz : (btx l).size = l.length := mk_size l
      have hx1 : (btx l).extract 0 m = btx (l.take 64) := by
        rw [mk_cut, List.drop_zero]
        congr 1
        rcases Nat.le_total l.length 64 with h1 | h1
        · rw [List.take_of_length_le (show l.length ≤ m by omega), List.take_of_length_le h1]
        · rw [show m = 64 by omega]
      have hx2 : (btx l).extract m l.length = btx (l.drop 64) := by
        rw [mk_cut, List.take_of_length_le (Nat.le_refl _)]
        congr 1
        rcases Nat.le_total l.length 64 with h1 | h1
        · rw [List.drop_of_length_le (show l.length ≤ m by omega), List.drop_of_length_le h1]
        · rw [show m = 64 by omega]
      replace hl := Box.mk hl
      replace hne := Box.mk hne
      replace hm := Box.mk hm
      go_wp2_with (refine wpList_min2 rfl (.tmp 14) (.const (.int .i64 64)) 3 rfl (l.length : Int) 64 (m : Int) rfl rfl hmn.out ?_)
      refine region_quiet_tail (C := fun w' => ∃ n, w' = wr.drewN n) 9 rfl (by kernel_rfl) ⟨1, rfl⟩ ?_
      simp only [List.take, List.drop]
      repeat (go_big_quiet_step (first | exact fun _ => rfl | rfl))
      refine wpQuiet_nil ?_
      rintro w5 ⟨r, rfl⟩
      have hcast : ((at_ + n + j : Nat) : Int) = (at_ : Int) + ((n : Int) + (j : Int)) := by omega
      have hW := write_any bd _ D' ((at_ + n + j : Nat) : Int) (btx (l.take 64)) (wr.drewN r) (hL.out.next.at_.below (below_drewN _ wr r)) (by have := hL.out.taken; omega) (Nat.le_trans hL.out.fall hf) (by have := hL.out.ws; omega)
      change Calls _ _ _ _ (fun e w' => e = .returned (.int .i64 (D'.writeE ((at_ + n + j : Nat) : Int) (l.take 64))) ∧ DNext (wr.drewN r) bd _ (D'.write ((at_ + n + j : Nat) : Int) (l.take 64)) w') at hW
      obtain ⟨D2, hD2⟩ : ∃ D2, D'.write ((at_ + n + j : Nat) : Int) (l.take 64) = D2 := ⟨_, rfl⟩
      obtain ⟨x, hxe⟩ : ∃ x, D'.writeE ((at_ + n + j : Nat) : Int) (l.take 64) = x := ⟨_, rfl⟩
      have hbase : DNext w1 bd F D' (wr.drewN r) := hL.out.next.trans (DNext.grow hL.out.next.at_ (below_drewN _ wr r))
      have hstep : Box (∀ w', DNext (wr.drewN r) bd (fun k => F k ∨ (w1.heap.size ≤ k ∧ k < wr.heap.size)) D2 w' → DNext w1 bd F D2 w') := ⟨fun w' hN => hL.out.next.trans (DNext.from_ (below_drewN _ wr r) hN)⟩
      have hend : Box (x ≠ 0 → layM (cut t.length t) D (at_ + n) = (x, D2)) := ⟨fun hx => by
        rw [← hxe, ← hD2, ← hl.out]
        exact hL.out.stop (by rw [hl.out]; exact hne.out) (by rw [hl.out, hxe]; exact hx)⟩
      have hgoon : Box (x = 0 → ∀ w', DNext w1 bd F D2 w' → LMid w1 bd F D t (at_ + n) (j + 1) D2 w') := ⟨fun hx w' hN => by
        rw [← hD2, ← hl.out]
        exact hL.out.step (by rw [hl.out]; exact hne.out) (by rw [hl.out, hxe]; exact hx) (by rw [hl.out, hD2]; exact hN)⟩
      have hlow : Box (64 * j < t.length) := ⟨by
        rcases Nat.lt_or_ge (64 * j) t.length with h1 | h1
        · exact h1
        · exact absurd (hl.out.symm.trans (List.drop_of_length_le h1)) hne.out⟩
      have hdrop : Box (t.drop (64 * (j + 1)) = l.drop 64) := ⟨by rw [← hl.out, List.drop_drop]; congr 1⟩
      rw [hD2, hxe, hcast] at hW
      generalize wr.drewN r = w5 at hW hstep ⊢
      replace hW := Box.mk hW
      clear hcast hD2 hxe hbase hL c0 c1
      by_cases hx0 : x = 0
      · subst hx0
        have hg2 : Box (∀ w', DNext w1 bd F D2 w' → LMid w1 bd F D t (at_ + n) (j + 1) D2 w') := ⟨hgoon.out rfl⟩
        clear hgoon hend
        go_wp2_with fail
        refine hW.out.mono ?_
        rintro e w6 ⟨rfl, hN⟩
        have hL6 := Box.mk (hg2.out w6 (hstep.out w6 hN))
        clear hW hN hstep hg2
        go_wp2_with fail
        refine ⟨⟨j + 1, D2, by have := hlow.out; omega, u_eq (by omega), by rw [hdrop.out], hL6⟩, ?_⟩
        have := hlow.out
        simp [intOf]; omega
      · have hx1 : (x == 0) = false := by simpa using hx0
        have hR : Box (layM (cut t.length t) D (at_ + n) = (x, D2)) := ⟨hend.out hx0⟩
        clear hgoon hend
        replace hx0 := Box.mk hx0
        go_wp2_with fail
        refine hW.out.mono ?_
        rintro e w6 ⟨rfl, hN⟩
        have hN6 : Box (DNext w bd F D2 w6) := ⟨DNext.from_ hB1.out (hstep.out w6 hN)⟩
        clear hW hN hstep
        go_wp2_with fail
        go_returns
        rw [hR.out]
        exact ⟨rfl, hN6⟩
end Go.Proofs.YtoaipjpbioaneaaGreat
