/- The document's device: New. -/
import Derived.Test.YtcccokdbgmejdaaFpF
namespace Go.Proofs.Ytcccokdbgmejdaa
open Go.RowKit

theorem below_drew' (B : Nat) (w : World) : Below B w w.drew := ⟨rfl, rfl, rfl, Nat.le_refl _, fun _ _ => rfl⟩
def lp (n i : Nat) : List Value := List.replicate i (.string z64) ++ List.replicate (n - i) (.string noT)
theorem lp_zero (n : Nat) : lp n 0 = List.replicate n (.string noT) := by simp [lp]
theorem lp_full (n : Nat) : lp n n = strs (List.replicate n zeroS) := by
  simp [lp, strs]
  exact .inr rfl
theorem lp_set (n i : Nat) (h : i < n) : (lp n i).set i (.string z64) = lp n (i + 1) := by
  unfold lp
  rw [List.set_append_right _ _ (by simp), List.length_replicate, Nat.sub_self, show n - i = (n - (i + 1)) + 1 by omega, List.replicate_succ, List.set_cons_zero, List.replicate_succ', List.append_assoc]; rfl
/-- In New's loop. -/
structure NL (w0 : World) (g bw n i : Nat) (w : World) : Prop where
  row : Row w 9 1 (.slice (some ⟨g, 0, none⟩) n n) n (lp n i)
  blk : Blk w bw [.slice (some ⟨g, 0, none⟩) n n, .slice none 0 0, .int .i64 0, .int .i64 0, .bool false] 66
  k : Below w0.heap.size w0 w
  g : w0.heap.size ≤ g ∧ w0.heap.size ≤ bw
theorem NL.keep {w0 w w' : World} {g bw n i : Nat} (h : NL w0 g bw n i w) (hb : Below w.heap.size w w') : NL w0 g bw n i w' :=
  ⟨h.row.chg (Chg.of_below hb) (fun k hk => by have := h.row.lt k hk; omega), (hb.block bw h.blk.lt).trans h.blk, h.k.trans (hb.mono h.k.size), h.g⟩
theorem NL.step {w0 w : World} {g bw n i : Nat} (h : NL w0 g bw n i w) (hi : i < n) : NL w0 g bw n (i + 1) (w.setCell ⟨g, i, none⟩ (.string z64)) := by
  have hx := (World.ownsRow.stored h.row i (.string z64)).1
  rw [lp_set n i hi] at hx
  refine ⟨hx, ?_, h.k.trans ((Below.refl _ w).setCell (p := ⟨g, _, none⟩) h.g.1 _), h.g⟩
  exact (chg1 w g i (.string z64)).blk h.blk (fun e => h.row.apart h.blk (by decide) (by rw [e]; rfl))
/-- What New leaves. -/
def QNew (w : World) (n : Nat) (e : Ending) (w' : World) : Prop :=
  ∃ bw, e = .returned (.tuple #[.pointer (some ⟨bw, 0, none⟩), .int .i64 0]) ∧ QAt w' bw (fun k => w.heap.size ≤ k ∧ k < w'.heap.size) (Dev.new n) ∧ Below w.heap.size w w'
theorem qnew_done {w0 w : World} {g bw n : Nat} (h : NL w0 g bw n n w) (hn : n ≤ 4096) : QNew w0 n (.returned (.tuple #[.pointer (some ⟨bw, 0, none⟩), .int .i64 0])) w := by
  have hr := h.row
  rw [lp_full] at hr
  refine ⟨bw, rfl, ⟨Dev.new_ok n hn, ⟨_, _, h.blk, ?_, Row.nil _ _ _, fun k hk => ?_, fun k hk => by cases hk⟩, ⟨h.g.2, h.blk.lt⟩, fun k hk => hk.2⟩, h.k⟩
  · have e : (Dev.new n).safe.length = n := by simp [Dev.new]
    rw [e]; exact hr
  · obtain rfl : g = k := by simpa [Value.ownBlock] using hk
    exact ⟨h.g.1, hr.lt g rfl⟩
theorem qnew_bad (n : Int) (w : World) (hn : n < 1 ∨ 4096 < n) :
    Calls Try.prog 27 #[.int .i64 n] w fun e w' => e = .returned (.tuple #[.pointer none, .int .i64 1]) ∧ w = w' := by
  by_cases h1 : n < 1
  · go_enter Try.func27, Try.ntmps27
    go_wp2_with fail
    go_returns
    exact ⟨rfl, rfl⟩
  · go_enter Try.func27, Try.ntmps27
    go_wp2_with fail
    go_returns
    exact ⟨rfl, rfl⟩
set_option linter.unusedSimpArgs false in
set_option maxHeartbeats 1600000 in
theorem qnew_fit (n : Nat) (w : World) (h1 : 1 ≤ n) (h2 : n ≤ 4096) :
    Calls Try.prog 27 #[.int .i64 (n : Int)] w (QNew w n) := by
  obtain ⟨iT, hiT, hzT, hsT, hbT⟩ := info_parts infoT
  have hH := Box.mk (And.intro hiT (And.intro hzT (And.intro hsT hbT)))
  obtain ⟨i5, hi5, hz5, hz51, hz52⟩ := info_parts info5'
  have hG := Box.mk (And.intro hi5 (And.intro hz5 (And.intro hz51 hz52)))
  clear hiT hzT hsT hbT hi5 hz5 hz51 hz52
  go_enter Try.func27, Try.ntmps27
  go_wp2_with (at_make; refine wpList_make_full _ rfl (.tmp 12) (.tmp 12) 63 rfl w.heap.size 9 iT (.string ⟨#[]⟩) 1 Try.underlying63 hH.out.1 hH.out.2.1 hH.out.2.2.1 .i64 .i64 _ _ n rfl rfl rfl rfl (by rw [hH.out.2.2.2]; omega) (by unfold maxLen; omega) (Nat.le_refl _) ?_; intro w1 hown hg; replace hown := Box.mk hown; replace hg := Box.mk hg)
  have hN0 : Box (NL w w.heap.size w1.heap.size n 0 (w1.alloc (.cells #[.slice (some ⟨w.heap.size, 0, none⟩) n n, .slice none 0 0, .int .i64 0, .int .i64 0, .bool false] 66))) := ⟨by
    have hB1 : Below w.heap.size w w1 := ⟨hg.out.os, hg.out.tape, hg.out.output, hg.out.size, fun k hk => hg.out.block k hk (by simp)⟩
    have hr : Row w1 9 1 (.slice (some ⟨w.heap.size, 0, none⟩) n n) n (lp n 0) := by
      have h0 := hown.out
      have e : (madeCells (Value.string ⟨#[]⟩).cells (n * 1)).toList = lp n 0 := by
        rw [lp_zero, Nat.mul_one]; exact toList_madeCells_one _ _
      rw [e] at h0
      obtain ⟨x1, x2⟩ := h0
      refine ⟨x1, x2.imp id ?_⟩
      rintro ⟨g, cap, cur, e1, e2, e3⟩
      exact ⟨g, cap, cur, e1, Nat.zero_le _, e3⟩
    have hs := hB1.size
    exact ⟨hr.chg (S := fun _ => False) ((Chg.refl _ _).alloc _) (fun _ _ h => h), Blk.new w1 _ _, hB1.alloc hs _, Nat.le_refl _, hs⟩⟩
  generalize w.heap.size = g at *
  generalize w1.heap.size = bw at *
  generalize w1.alloc _ = wz at *
  clear hown hg hH
  go_loopw [5] (fun s5 wr => ∃ i : Nat, i ≤ n ∧ s5 = .int .i64 i ∧ Box (NL w g bw n i wr)) (fun s5 _ => n - (intOf s5).toNat)
  case atStart => exact ⟨0, by omega, rfl, hN0⟩
  case round =>
    clear hN0
    obtain ⟨i, hi, rfl, hK⟩ := hrel
    by_cases hlt : i < n
    · go_wp2_with fail
      have c0 : wr.drew.cell? ⟨bw, 0, none⟩ = some (.slice (some ⟨g, 0, none⟩) n n) := hK.out.blk.cell 0
      have hKd : Box (NL w g bw n i wr.drew) := ⟨hK.out.keep (below_drew' _ wr)⟩
      refine region_go (C := fun w' => w'.cell? ⟨bw, 0, none⟩ = some (.slice (some ⟨g, 0, none⟩) n n)) rfl ?_
      generalize wr.drew = wd at c0 hKd ⊢
      clear hK
      refine go_calms [0, 1, 2, 3, 4] 4 rfl (by kernel_rfl) (by kernel_rfl) (by kernel_rfl) c0 ?_
      simp [nth]
      repeat (go_big_quiet_step (first | exact fun _ => rfl | rfl))
      refine quiet_any rfl (.slice (some ⟨g, 0, none⟩) n n) (fun w' hw' => by go_simp) ?_
      simp only [Act.put, List.setIfInBounds_toArray, List.set_cons_succ, List.set_cons_zero]
      repeat (go_big_quiet_step (first | exact fun _ => rfl | rfl))
      refine wpQuiet_nil ?_
      refine go_forced 5 (by kernel_rfl) (goOp_wp 5 rfl rfl (fun K hK => ?_))
      refine wp_make (.const (.int .i64 64)) (.const (.int .i64 64)) 49 rfl wd.heap.size 5 i5 (.int .u8 0) 1 Try.underlying49 hG.out.1 hG.out.2.1 hG.out.2.2.1 .i64 .i64 _ _ 64 rfl rfl rfl rfl (by rw [hG.out.2.2.2]; omega) (by unfold maxLen; omega) (Nat.le_refl _) ?_
      intro wm hown2 hgr
      have hconv := zero_conv wm _ _ hown2
      have hKm : Box (NL w g bw n i wm) := ⟨hKd.out.keep ⟨hgr.os, hgr.tape, hgr.output, hgr.size, fun k hk => hgr.block k hk (by simp)⟩⟩
      refine hK _ _ (hKm.out.blk.cell 0) ?_
      clear hK K hown2 hgr c0 hKd
      simp only [Act.put, List.setIfInBounds_toArray, List.set_cons_succ, List.set_cons_zero]
      refine go_forced 6 (by kernel_rfl) (goOp_wp 6 rfl rfl (fun K hK => ?_))
      go_simp
      refine hK _ _ (hKm.out.blk.cell 0) ?_
      clear hK K hconv
      refine go_calms [7] 1 rfl (by kernel_rfl) (by kernel_rfl) (by kernel_rfl) (hKm.out.blk.cell 0) ?_
      simp [nth]
      repeat (go_big_quiet_step (first | exact fun _ => rfl | rfl))
      refine wpQuiet_nil ?_
      have hKs := Box.mk (hKm.out.step hlt)
      have f1 := World.ownsRow.frozenAt hKm.out.row i
      have hce : ∃ u, wm.cell? ⟨g, i, none⟩ = some u ∧ (∃ b, u = .string b) := by
        have hl : i < (lp n i).length := by simp [lp]; omega
        refine ⟨_, hKm.out.row.cells i _ (List.getElem?_eq_getElem hl), ?_⟩
        have : (lp n i)[i] ∈ lp n i := List.getElem_mem hl
        unfold lp at this
        rcases List.mem_append.1 this with h | h
        · exact ⟨_, List.eq_of_mem_replicate h⟩
        · exact ⟨_, List.eq_of_mem_replicate h⟩
      obtain ⟨_, hce, b, rfl⟩ := hce
      refine go_forced 8 (by kernel_rfl) (goOp_wp 8 rfl rfl (fun K hK => ?_))
      go_simp
      refine hK _ _ (hKs.out.blk.cell 0) ?_
      clear hK K hce f1 hKm
      generalize wm.setCell _ _ = w6 at hKs ⊢
      refine go_done (by kernel_rfl) ?_
      go_wp2_with fail
      exact ⟨⟨i + 1, by omega, by go_num, hKs⟩, by simp [intOf]; omega⟩
    · obtain rfl : i = n := by omega
      go_wp2_with fail
      go_returns
      exact qnew_done hK.out h2
end Go.Proofs.Ytcccokdbgmejdaa
