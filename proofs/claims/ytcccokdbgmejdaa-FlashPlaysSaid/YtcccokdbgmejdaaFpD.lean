/- The document's device: All, Barrier, Crash. -/
import Derived.Test.YtcccokdbgmejdaaFpC
namespace Go.Proofs.Ytcccokdbgmejdaa
open Go.RowKit

theorem q_settled {w w2 w3 : World} {bw : Nat} {F : Nat → Prop} {D D' : Dev} {v : Value} (h : QAt w bw F D) (hk : Below w.heap.size w w2) (hr : Row w2 9 1 v D'.safe.length (strs D'.safe)) (hv : ∀ k, v.ownBlock = some k → w.heap.size ≤ k) (hws : D'.ws = []) (hok : D'.ok)
    (hc : Chg (fun k => k = bw) w2 w3) (hb : Blk w3 bw [v, .slice none 0 0, .int .i64 (D'.taken : Int), .int .i64 (D'.fall : Int), .bool D'.off] 66) : QNext w bw F D' w3 := by
  have hl := h.lt bw h.fd
  have hs1 := hk.size
  have hs2 := hc.size
  refine ⟨⟨hok, ⟨v, .slice none 0 0, hb, hr.chg hc (fun k hk e => by have := hv k hk; omega), by rw [hws]; exact Row.nil _ _ _, fun k hk => .inr ⟨hv k hk, by have := hr.lt k hk; omega⟩, fun k hk => by cases hk⟩, .inl h.fd, fun k hk => ?_⟩, ?_⟩
  · rcases hk with hk | hk
    · have := h.lt k hk; omega
    · exact hk.2
  · exact ((Chg.of_below hk).mono (fun i h1 h2 => by omega)).trans hc (fun i _ hi => by rw [hi]; exact h.fd)
/-- What settled answers. -/
def Sett (w : World) (l : List Sec) (e : Ending) (w' : World) : Prop := ∃ v', e = .returned v' ∧ Row w' 9 1 v' l.length (strs l) ∧ (∀ k, v'.ownBlock = some k → w.heap.size ≤ k) ∧ Below w.heap.size w w'
theorem settle_length (keep : List Int) (s : List Sec) (ws : List WrD) : (settle keep s ws).length = s.length := settleN_length _ _ _ _
/-- settled of 64, a slice that was just made. -/
theorem settled_64 (bw : Nat) (F : Nat → Prop) (D : Dev) (w wn : World) (h : QAt w bw F D) (h0 : 0 < D.safe.length) (hws : D.ws.length ≤ 1000000) (hwn : w.alloc (.cells #[.int .i64 64] 3) = wn) :
    Calls Try.prog 41 #[.pointer (some ⟨bw, 0, none⟩), .slice (some ⟨w.heap.size, 0, none⟩) 1 1] wn (Sett w D.seen) := by
  have hb : Below w.heap.size w wn := hwn ▸ (Below.refl _ _).alloc (Nat.le_refl _) _
  have hn := Blk.new w [.int .i64 64] 3
  rw [hwn] at hn
  have hI : Ints wn (fun k => k < wn.heap.size) (.slice (some ⟨w.heap.size, 0, none⟩) 1 1) [64] :=
    ⟨⟨_, 1, rfl, fun _ => ⟨w.heap.size, 0, rfl, hn.lt, hn.lt, fun i hi => by
      obtain rfl : i = 0 := by simpa using hi
      exact hn.cell 0⟩⟩⟩
  refine (settled_fit bw F D _ 1 [64] wn (h.below hb) h0 hws hI (by simp)).mono fun e w' ⟨v', a, b, c, d⟩ => ⟨v', a, ?_, fun k hk => Nat.le_trans hb.size (c k hk), hb.trans (d.mono hb.size)⟩
  rw [settle_all h.ok.s h.ok.w] at b
  rw [Dev.ok.seen_len]
  exact b
set_option maxHeartbeats 400000 in
theorem qall_any (bw : Nat) (F : Nat → Prop) (D : Dev) (w : World) (h : QAt w bw F D) (h0 : 0 < D.safe.length) (hws : D.ws.length ≤ 1000000) :
    Calls Try.prog 33 #[.pointer (some ⟨bw, 0, none⟩)] w (Sett w D.seen) := by
  obtain ⟨wn, hwn⟩ : ∃ wn, w.alloc (.cells #[.int .i64 64] 3) = wn := ⟨_, rfl⟩
  have hS := Box.mk (settled_64 bw F D w wn h h0 hws hwn)
  go_enter Try.func33, Try.ntmps33
  go_wp2_with fail
  refine hS.out.mono ?_
  rintro e w' ⟨v', rfl, h1, h2, h3⟩
  clear hS
  go_wp2_with fail
  go_ret
  exact ⟨v', rfl, h1, h2, h3⟩
set_option maxHeartbeats 1600000 in
theorem qbarrier_any (bw : Nat) (F : Nat → Prop) (D : Dev) (w : World) (h : QAt w bw F D) (h0 : 0 < D.safe.length) (hws : D.ws.length ≤ 1000000) (ht : D.taken ≤ 1000000) (hf : D.fall ≤ 9223372036854775807) :
    Calls Try.prog 28 #[.pointer (some ⟨bw, 0, none⟩)] w fun e w' => e = .returned (.int .i64 D.barrierE) ∧ QNext w bw F D.barrier w' := by
  obtain ⟨vs, vp, hb, hs, _, _, _⟩ := h.out
  have c4 : w.cell? ⟨bw, 4, none⟩ = some (.bool D.off) := hb.cell 4
  unfold Dev.barrierE Dev.barrier
  cases hoff : D.off
  · simp only [Bool.false_eq_true, if_false]
    rw [hoff] at c4
    have hSt := qstep_any bw F D w h ht hf
    have hbw := h.lt bw h.fd
    cases hg : D.goes
    · rw [hg] at hSt
      simp only [Bool.false_eq_true, if_false]
      have hSt := Box.mk hSt
      replace h := Box.mk h
      clear hb hs hoff
      go_enter Try.func28, Try.ntmps28
      go_wp2_with fail
      refine hSt.out.mono ?_
      rintro e w2 ⟨rfl, hq, hc, hz⟩
      simp only [Bool.false_eq_true, if_false]
      clear hSt
      go_wp2_with fail
      go_ret
      exact ⟨rfl, hq.wide (fun _ hk => .inl hk) (fun k hk => by rcases hk with hk | hk; exact hq.lt k hk; exact hk.2), hc.mono (fun i _ hi => by rw [hi]; exact h.out.fd)⟩
    · rw [hg] at hSt
      simp only [if_true]
      have hSt := Box.mk hSt
      replace h := Box.mk h
      clear hb hs hoff
      go_enter Try.func28, Try.ntmps28
      go_wp2_with fail
      refine hSt.out.mono ?_
      rintro e w2 ⟨rfl, hq, hc, hz⟩
      simp only [if_true]
      clear hSt
      have hl2 : D.stepD.safe = D.safe ∧ D.stepD.ws = D.ws := ⟨Dev.step_safe D, Dev.step_ws D⟩
      obtain ⟨wn, hwn⟩ : ∃ wn, w2.alloc (.cells #[.int .i64 64] 3) = wn := ⟨_, rfl⟩
      have hS := Box.mk (settled_64 bw F D.stepD w2 wn hq (by rw [hl2.1]; exact h0) (by rw [hl2.2]; exact hws) hwn)
      replace hq := Box.mk hq
      replace hc := Box.mk hc
      replace hz := Box.mk hz
      replace hl2 := Box.mk hl2
      go_wp2_with fail
      refine hS.out.mono ?_
      rintro e w4 ⟨v', rfl, h1, h2, h3⟩
      clear hS
      obtain ⟨a', c', rfl⟩ := h1.shape
      obtain ⟨us, up, hb2, _⟩ := hq.out.out
      have hb4 : Blk w4 bw _ _ := (h3.block bw hb2.lt).trans hb2
      have g0 : w4.cell? ⟨bw, 0, none⟩ = some us := hb4.cell 0
      have g1 : w4.cell? ⟨bw, 1, none⟩ = some up := hb4.cell 1
      have f0 := hb4.free 0
      have f1 := hb4.free 1
      have hfin : Box (∀ w', (w4.setCell ⟨bw, 0, none⟩ (.slice a' D.stepD.seen.length c')).setCell ⟨bw, 1, none⟩ (.slice none 0 0) = w' → QNext w bw F { D.stepD with safe := D.seen, ws := [] } w') := ⟨fun w' hw' => by
        have hsn : D.stepD.seen = D.seen := by unfold Dev.seen; rw [hl2.out.1, hl2.out.2]
        have hok : ({ D.stepD with safe := D.seen, ws := [] } : Dev).ok := ⟨h.out.ok.seen, okW_nil _, by have := h.out.ok.n; simp only; rw [Dev.ok.seen_len]; exact this⟩
        rw [hsn] at h1 h2 hw'
        have hn : QNext w2 bw F { D.stepD with safe := D.seen, ws := [] } w' := by
          refine q_settled hq.out h3 h1 h2 rfl hok ?_ ?_
          · rw [← hw']; exact chg2 _ _ _ _ _ _
          · rw [← hw']; exact (hb4.setCell 0 _).setCell 1 _
        refine ⟨?_, (hc.out.mono (fun i _ hi => by rw [hi]; exact h.out.fd)).trans hn.chg (fun _ _ h => h)⟩
        rw [← hz.out]
        exact hn.at_⟩
      clear h1 h2 h3 hb4 hb2
      generalize D.stepD.seen.length = NN at *
      go_wp2_with fail
      go_ret
      exact ⟨rfl, hfin.out _ rfl⟩
  · rw [if_pos rfl, if_pos rfl]
    rw [hoff] at c4
    clear hb hs hoff
    go_enter Try.func28, Try.ntmps28
    go_wp2_with fail
    go_ret
    exact ⟨rfl, QNext.same h⟩
set_option maxHeartbeats 1600000 in
theorem qcrash_any (bw : Nat) (F : Nat → Prop) (D : Dev) (a : Option Addr) (c : Nat) (keep : List Int) (w : World) (h : QAt w bw F D) (h0 : 0 < D.safe.length) (hws : D.ws.length ≤ 1000000) (hI : Ints w (fun k => k < w.heap.size) (.slice a keep.length c) keep) (hkl : keep.length ≤ 9223372036854775807) :
    Calls Try.prog 31 #[.pointer (some ⟨bw, 0, none⟩), .agg #[.slice a keep.length c]] w fun e w' => e = .returned (.tuple #[]) ∧ QNext w bw F (D.crash keep) w' := by
  obtain ⟨wn, hwn⟩ : ∃ wn, w.alloc (.cells #[.slice a keep.length c] 30) = wn := ⟨_, rfl⟩
  have hbn : Below w.heap.size w wn := hwn ▸ (Below.refl _ _).alloc (Nat.le_refl _) _
  have hnew := Blk.new w [.slice a keep.length c] 30
  rw [hwn] at hnew
  obtain ⟨bo, hbo⟩ : ∃ bo, w.heap.size = bo := ⟨_, rfl⟩
  rw [hbo] at hnew
  have e0 : wn.cell? ⟨bo, 0, none⟩ = some (.slice a keep.length c) := hnew.cell 0
  have hs := hbn.size
  have hS := Box.mk (settled_fit bw F D a c keep wn (h.below hbn) h0 hws ((hI.chg (Chg.of_below hbn) (fun k hk _ => by omega)).less (fun k hk => by omega)) hkl)
  replace h := Box.mk h
  replace hbn := Box.mk hbn
  clear hnew hI
  generalize hvl : keep.length = vl at *
  go_enter Try.func31, Try.ntmps31
  go_wp2_with fail
  refine hS.out.mono ?_
  rintro e w4 ⟨v', rfl, h1, h2, h3⟩
  clear hS
  obtain ⟨a', c', rfl⟩ := h1.shape
  obtain ⟨us, up, hb2, _⟩ := h.out.out
  have h34 := hbn.out.trans (h3.mono hbn.out.size)
  have hb4 : Blk w4 bw _ _ := (h34.block bw hb2.lt).trans hb2
  have g0 : w4.cell? ⟨bw, 0, none⟩ = some us := hb4.cell 0
  have g1 : w4.cell? ⟨bw, 1, none⟩ = some up := hb4.cell 1
  have g3 : w4.cell? ⟨bw, 3, none⟩ = some (.int .i64 (D.fall : Int)) := hb4.cell 3
  have g4 : w4.cell? ⟨bw, 4, none⟩ = some (.bool D.off) := hb4.cell 4
  have f0 := hb4.free 0
  have f1 := hb4.free 1
  have f3 := hb4.free 3
  have f4 := hb4.free 4
  have hfin : Box (∀ w', (((w4.setCell ⟨bw, 0, none⟩ (.slice a' D.safe.length c')).setCell ⟨bw, 1, none⟩ (.slice none 0 0)).setCell ⟨bw, 3, none⟩ (.int .i64 0)).setCell ⟨bw, 4, none⟩ (.bool false) = w' → QNext w bw F (D.crash keep) w') := ⟨fun w' hw' => by
    refine q_settled h.out h34 (v := .slice a' D.safe.length c') ?_ (fun k hk => Nat.le_trans hs (h2 k hk)) rfl (h.out.ok.crash keep) ?_ ?_
    · rw [show (D.crash keep).safe = settle keep D.safe D.ws from rfl, settle_length]; exact h1
    · rw [← hw']; exact (chg2 w4 bw 0 1 _ _).trans (chg2 _ bw 3 4 _ _) (fun _ _ h => h)
    · rw [← hw']; exact (((hb4.setCell 0 _).setCell 1 _).setCell 3 _).setCell 4 _⟩
  clear h1 h2 h3 hb4 hb2 h34
  generalize D.safe.length = NN at *
  go_wp2_with fail
  go_returns
  exact ⟨rfl, hfin.out _ rfl⟩
end Go.Proofs.Ytcccokdbgmejdaa
