/- A device and the document's, side by side; what told tells of equal ones. -/
import Derived.Test.YtcccokdbgmejdaaFpG
import Derived.Deep.QuietTactic
import Derived.BigQuiet
namespace Go.Proofs.Ytcccokdbgmejdaa
open Go.RowKit

/-- A device of N sectors behind at most c calls. -/
structure DN (N c : Nat) (D : Dev) : Prop where
  s : D.safe.length = N
  w : D.ws.length ≤ c
  t : D.taken ≤ c
  f : D.fall ≤ 9223372036854775807
theorem DN.step {N c : Nat} {D : Dev} (h : DN N c D) : DN N (c + 1) D.stepD ∧ D.stepD.ws = D.ws := by
  have h1 := h.s
  have h2 := h.w
  have h3 := h.t
  have h4 := h.f
  unfold Dev.stepD
  split
  · exact ⟨⟨h1, by simp only; omega, by simp only; omega, by simp only; omega⟩, rfl⟩
  · exact ⟨⟨h1, by simp only; omega, by simp only; omega, by simp only; omega⟩, rfl⟩
theorem DN.wide {N c c' : Nat} {D : Dev} (h : DN N c D) (hc : c ≤ c') : DN N c' D := ⟨h.s, Nat.le_trans h.w hc, Nat.le_trans h.t hc, h.f⟩
theorem DN.does {N c : Nat} {D : Dev} (h : DN N c D) (o : OpD) (ho : o.ok) : DN N (c + 1) (o.dev D) := by
  have hs := h.step
  have hw := h.w
  have hn := ho.n
  unfold OpD.dev
  split
  · unfold Dev.barrier
    split
    · exact h.wide (by omega)
    · split
      · exact ⟨by simp only; rw [Dev.ok.seen_len]; exact h.s, Nat.zero_le _, hs.1.t, hs.1.f⟩
      · exact hs.1
  · split
    · exact h.wide (by omega)
    · split
      · exact ⟨h.s, by have := h.w; simp only [Dev.falls]; omega, by have := h.t; simp only [Dev.falls]; omega, by simp only [Dev.falls]; omega⟩
      · split
        · exact ⟨by unfold Dev.crash settle; simp only [settleN_length]; exact h.s, Nat.zero_le _, by have := h.t; simp only [Dev.crash]; omega, Nat.zero_le _⟩
        · unfold Dev.write
          split
          · exact h.wide (by omega)
          · split
            · exact h.wide (by omega)
            · split
              · exact ⟨hs.1.s, by simp; omega, hs.1.t, hs.1.f⟩
              · exact hs.1
structure Mix (B : Nat) (X : Nat → Prop) (w : World) (bd bw : Nat) (D C : Dev) : Prop where
  out : ∃ Fd Fw, DAt w bd Fd D ∧ QAt w bw Fw C ∧ (∀ k, Fd k → B ≤ k ∧ ¬ X k) ∧ (∀ k, Fw k → B ≤ k ∧ ¬ X k) ∧ ∀ k, Fd k → ¬ Fw k
  x : ∀ k, X k → k < w.heap.size
  b : B ≤ w.heap.size
section
variable {B : Nat} {X : Nat → Prop} {w w' : World} {bd bw : Nat} {D C : Dev}
theorem Mix.left (h : Mix B X w bd bw D C) : ∃ Y, DV B Y w bd D ∧ (∀ k, X k → Y k) ∧ ∀ w' D', DV B Y w' bd D' → Others B Y w w' → Mix B X w' bd bw D' C ∧ Others B X w w' := by
  obtain ⟨Fd, Fc, h1, h2, h3, h4, h5⟩ := h.out
  refine ⟨fun k => X k ∨ Fc k, ⟨⟨Fd, h1, fun k hk => ⟨(h3 k hk).1, fun hx => ?_⟩⟩, fun k hk => ?_, h.b⟩, fun k hk => .inl hk, fun w' D' hv ho => ⟨?_, ho.mono fun k _ hk => ⟨hk.1, fun hx => hk.2 (.inl hx)⟩⟩⟩
  · rcases hx with hx | hx
    · exact (h3 k hk).2 hx
    · exact h5 k hk hx
  · rcases hk with hk | hk
    · exact h.x k hk
    · exact h2.lt k hk
  · obtain ⟨F, hF, h6⟩ := hv.out
    exact ⟨⟨F, Fc, hF, h2.chg ho (fun k hk hs => hs.2 (.inr hk)), fun k hk => ⟨(h6 k hk).1, fun hx => (h6 k hk).2 (.inl hx)⟩, h4, fun k hk hc => (h6 k hk).2 (.inr hc)⟩, fun k hk => hv.x k (.inl hk), hv.b⟩
theorem Mix.right (h : Mix B X w bd bw D C) : ∃ F, QAt w bw F C ∧ ∀ w' C', QNext w bw F C' w' → Mix B X w' bd bw D C' ∧ Others B X w w' := by
  obtain ⟨Fd, Fc, h1, h2, h3, h4, h5⟩ := h.out
  refine ⟨Fc, h2, fun w' C' hq => ⟨⟨⟨Fd, _, h1.chg hq.chg (fun k hk hc => h5 k hk hc), hq.at_, h3, fun k hk => ?_, fun k hk hc => ?_⟩, fun k hk => Nat.lt_of_lt_of_le (h.x k hk) hq.chg.size, Nat.le_trans h.b hq.chg.size⟩, hq.chg.mono fun k _ hk => h4 k hk⟩⟩
  · rcases hk with hk | hk
    · exact h4 k hk
    · exact ⟨Nat.le_trans h.b hk.1, fun hx => by have := h.x k hx; omega⟩
  · rcases hc with hc | hc
    · exact h5 k hk hc
    · have := h1.lt k hk; omega
theorem Mix.keep (h : Mix B X w bd bw D C) (hb : Below w.heap.size w w') (Y : Nat → Prop) (hY : ∀ k, Y k → X k ∨ (w.heap.size ≤ k ∧ k < w'.heap.size)) : Mix B Y w' bd bw D C := by
  obtain ⟨Fd, Fc, h1, h2, h3, h4, h5⟩ := h.out
  have hs := hb.size
  refine ⟨⟨Fd, Fc, h1.below hb, h2.below hb, fun k hk => ⟨(h3 k hk).1, fun hy => ?_⟩, fun k hk => ⟨(h4 k hk).1, fun hy => ?_⟩, h5⟩, fun k hk => ?_, Nat.le_trans h.b hs⟩
  · rcases hY k hy with h6 | h6
    · exact (h3 k hk).2 h6
    · have := h1.lt k hk; omega
  · rcases hY k hy with h6 | h6
    · exact (h4 k hk).2 h6
    · have := h2.lt k hk; omega
  · rcases hY k hk with h6 | h6
    · have := h.x k h6; omega
    · exact h6.2
theorem Mix.same (h : Mix B X w bd bw D C) (hb : Below w.heap.size w w') : Mix B X w' bd bw D C := h.keep hb X fun _ hk => .inl hk
end
theorem quiet_s {P : Program} {f : FuncId} {args : Array Value} {w : World} {n : Nat} {v : Value} (h : Calls P f args (w.drewN n) fun e w' => e = .returned v ∧ w.drewN n = w') : Calls P f args (w.drewN n) fun e w'' => e = .returned v ∧ ∃ m, w'' = w.drewN m := h.mono fun _ _ ⟨a, b⟩ => ⟨a, n, b.symm⟩
set_option maxHeartbeats 3200000 in
set_option maxRecDepth 100000 in
theorem told_any (B : Nat) (X : Nat → Prop) (w : World) (bd bw N c : Nat) (D : Dev) (hP : Mix B X w bd bw D D) (hd : DN N c D) (hc : c ≤ 1000) (hN1 : 1 ≤ N) (hN2 : N ≤ 4096) :
    Calls Try.prog 12 #[.pointer (some ⟨bd, 0, none⟩), .pointer (some ⟨bw, 0, none⟩)] w fun e w' => e = .returned (.bool true) ∧ Box (Below w.heap.size w w') := by
  obtain ⟨Fd, Fw, hA, hQ, _, _, _⟩ := hP.out
  have q1 : ∀ n, Calls Try.prog 26 #[.pointer (some ⟨bd, 0, none⟩)] (w.drewN n) fun e w' => e = .returned (.int .i64 (D.safe.length : Int)) ∧ w.drewN n = w' := fun n => sectors_any bd Fd D _ (hA.below (below_drewN _ w n))
  have q2 : ∀ n, Calls Try.prog 16 #[.pointer (some ⟨bd, 0, none⟩)] (w.drewN n) fun e w' => e = .returned (.int .i64 (D.ws.length : Int)) ∧ w.drewN n = w' := fun n => pending_any bd Fd D _ (hA.below (below_drewN _ w n))
  have q3 : ∀ n, Calls Try.prog 22 #[.pointer (some ⟨bd, 0, none⟩)] (w.drewN n) fun e w' => e = .returned (.int .i64 (D.taken : Int)) ∧ w.drewN n = w' := fun n => steps_any bd Fd D _ (hA.below (below_drewN _ w n))
  have q4 : ∀ n, Calls Try.prog 20 #[.pointer (some ⟨bd, 0, none⟩)] (w.drewN n) fun e w' => e = .returned (.bool D.off) ∧ w.drewN n = w' := fun n => off_any bd Fd D _ (hA.below (below_drewN _ w n))
  obtain ⟨vs, vp, hb, hs, hp, _, _⟩ := hQ.out
  obtain ⟨ga, gc, rfl⟩ := hs.shape
  obtain ⟨pa, pc, rfl⟩ := hp.shape
  have c0 : w.cell? ⟨bw, 0, none⟩ = some (.slice ga D.safe.length gc) := hb.cell 0
  have c1 : w.cell? ⟨bw, 1, none⟩ = some (.slice pa D.ws.length pc) := hb.cell 1
  have c2 : w.cell? ⟨bw, 2, none⟩ = some (.int .i64 (D.taken : Int)) := hb.cell 2
  have c4 : w.cell? ⟨bw, 4, none⟩ = some (.bool D.off) := hb.cell 4
  have hAll := fun n => qall_any bw Fw D (w.drewN n) (hQ.below (below_drewN _ w n)) (by rw [hd.s]; omega) (by have := hd.w; omega)
  have hRd := fun (w2 : World) (hb2 : Below w.heap.size w w2) (n : Int) => read_any bd Fd D n w2 (hA.below hb2)
  have hseen : D.seen.length = N := by rw [Dev.ok.seen_len, hd.s]
  have hlen : D.safe.length = N := hd.s
  rw [hlen] at q1 c0
  replace q1 := Box.mk q1
  replace q2 := Box.mk q2
  replace q3 := Box.mk q3
  replace q4 := Box.mk q4
  replace hAll := Box.mk hAll
  replace hRd := Box.mk hRd
  replace hb := Box.mk hb
  replace hseen := Box.mk hseen
  replace hlen := Box.mk hlen
  clear hs hp hP hd hA hQ
  obtain ⟨off, hoff⟩ : ∃ b, D.off = b := ⟨_, rfl⟩
  rw [hoff] at q4 c4 hb
  replace hoff := Box.mk hoff
  generalize hM : D.ws.length = M at *
  generalize hT : D.taken = T at *
  clear hM hT
  obtain ⟨p, hp⟩ : ∃ p, min N 70 = p := ⟨_, rfl⟩
  have hpi : Box ((if (70 : Int) < (N : Int) then 70 else (N : Int)) = (p : Int)) := ⟨by split <;> omega⟩
  have hpN : p ≤ N ∧ p ≤ 70 := by omega
  clear hp
  go_enter Try.func12, Try.ntmps12
  go_wp2_with fail
  refine wp_region_quiet_lit (by kernel_rfl) (by kernel_rfl) ?_
  repeat (go_big_quiet_step ((first | (go_at_call 26; exact quiet_s (q1.out _)) | (go_at_call 16; exact quiet_s (q2.out _)) | (go_at_call 22; exact quiet_s (q3.out _)) | (go_at_call 20; exact quiet_s (q4.out _)) | exact fun _ => rfl | rfl)))
  refine wpQuiet_nil ?_
  rintro w' ⟨r, rfl⟩
  have hAl := Box.mk (hAll.out r)
  have hb1 : Box (Below w.heap.size w (w.drewN r)) := ⟨below_drewN _ w r⟩
  clear q1 q2 q3 q4 hAll c0 c1 c2 c4
  generalize w.drewN r = w1 at hAl hb1 ⊢
  go_wp2_with fail
  refine hAl.out.mono ?_
  rintro e w3 ⟨v', rfl, hr, _, hB3⟩
  have hB := Box.mk (hb1.out.trans (hB3.mono hb1.out.size))
  rw [hseen.out] at hr
  obtain ⟨g, gc2, rfl, _⟩ := hr.some (by omega)
  replace hr := Box.mk hr
  have hR := Box.mk (hRd.out w3 hB.out)
  have c4 : w3.cell? ⟨bw, 4, none⟩ = some (.bool off) := by
    have hbk : Blk w3 bw _ _ := (hB.out.block bw hb.out.lt).trans hb.out
    exact hbk.cell 4
  clear hAl hB3 hb1 hRd hb
  go_wp2_with (refine wpList_min rfl (.tmp 48) (.const (.int .i64 70)) 3 rfl (N : Int) 70 (p : Int) rfl rfl hpi.out ?_)
  go_loopw [50] (fun s50 wr => ∃ i : Nat, i ≤ p ∧ s50 = .int .i64 i ∧ wr = w3) (fun s50 _ => p - (intOf s50).toNat)
  case atStart => exact ⟨0, by omega, rfl, rfl⟩
  case round =>
    obtain ⟨i, hi, rfl, rfl⟩ := hrel
    by_cases hlt : i < p
    · have hsl : i < D.seen.length := by have := hseen.out; omega
      have hcl := hr.out.cells i _ (strs_get D.seen i hsl)
      have hRi := hR.out (i : Int)
      have hrf : D.refused (i : Int) = if off then 7 else 0 := by
        unfold Dev.refused
        rw [hoff.out, hlen.out]
        have h1 : ¬ ((i : Int) < 0 ∨ (N : Int) ≤ (i : Int)) := by omega
        rw [if_neg h1]
      unfold readR Dev.read at hRi
      rw [hrf, Int.toNat_natCast] at hRi
      cases off
      · simp only [Bool.false_eq_true, if_false, ne_eq, not_true_eq_false] at hRi
        change Calls _ _ _ _ (fun e w' => e = .returned (.tuple #[.string (bt (D.seen.getD i zeroS)), .int .i64 0]) ∧ _) at hRi
        generalize bt (D.seen.getD i zeroS) = T1 at hRi hcl
        replace hRi := Box.mk hRi
        clear hrf
        go_wp2_with fail
        refine hRi.out.mono ?_
        rintro e w' ⟨rfl, rfl⟩
        clear hRi
        go_wp2_with fail
        exact ⟨⟨i + 1, by omega, by go_num, trivial⟩, by simp [intOf]; omega⟩
      · have hRi2 : Calls Try.prog 19 #[.pointer (some ⟨bd, 0, none⟩), .int .i64 (i : Int)] wr fun e w' => e = .returned (.tuple #[.string ⟨#[]⟩, .int .i64 7]) ∧ wr = w' := by
          simpa using hRi
        replace hRi2 := Box.mk hRi2
        clear hrf hRi hcl
        go_wp2_with fail
        refine hRi2.out.mono ?_
        rintro e w' ⟨rfl, rfl⟩
        clear hRi2
        go_wp2_with fail
        exact ⟨⟨i + 1, by omega, by go_num, trivial⟩, by simp [intOf]; omega⟩
    · go_wp2_with fail
      go_ret
      exact ⟨rfl, hB⟩
end Go.Proofs.Ytcccokdbgmejdaa
