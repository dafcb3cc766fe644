/- The document's device: Write in all cases. -/
import Derived.Test.YtcccokdbgmejdaaFpE
namespace Go.Proofs.Ytcccokdbgmejdaa
open Go.RowKit

set_option maxHeartbeats 1600000 in
theorem qwrite_any (bw : Nat) (F : Nat → Prop) (D : Dev) (n : Int) (t : ByteArray) (w : World) (h : QAt w bw F D) (hk : D.taken ≤ 1000000) (hf : D.fall ≤ 9223372036854775807) (hws : D.ws.length ≤ 1000000) :
    Calls Try.prog 32 #[.pointer (some ⟨bw, 0, none⟩), .int .i64 n, .string t] w fun e w' => e = .returned (.int .i64 (D.writeE n t.data.toList)) ∧ QNext w bw F (D.write n t.data.toList) w' := by
  unfold Dev.writeE Dev.write
  by_cases hr : D.refused n = 0
  · simp only [hr, ne_eq, not_true_eq_false, if_false]
    by_cases ht : 64 < t.data.toList.length
    · simp only [ht, if_true]
      rw [data_len] at ht
      have hIn := qin_any bw F D n w h
      rw [hr] at hIn
      replace hIn := Box.mk hIn
      go_enter Try.func32, Try.ntmps32
      go_wp2_with fail
      refine hIn.out.mono ?_
      rintro e w' ⟨rfl, rfl⟩
      clear hIn
      go_wp2_with fail
      go_ret
      exact ⟨rfl, QNext.same h⟩
    · simp only [ht, if_false]
      rw [data_len] at ht
      cases hg : D.goes
      · simp only [Bool.false_eq_true, if_false]
        have hIn := qin_any bw F D n w h
        rw [hr] at hIn
        replace hIn := Box.mk hIn
        have hSt := qstep_any bw F D w h hk hf
        rw [hg] at hSt
        replace hSt := Box.mk hSt
        clear hg hr
        go_enter Try.func32, Try.ntmps32
        go_wp2_with fail
        refine hIn.out.mono ?_
        rintro e w' ⟨rfl, rfl⟩
        clear hIn
        go_wp2_with fail
        refine hSt.out.mono ?_
        rintro e w2 ⟨rfl, hq, hc, hz⟩
        simp only [Bool.false_eq_true, if_false]
        clear hSt
        go_wp2_with fail
        go_ret
        exact ⟨rfl, hq.wide (fun _ hk => .inl hk) (fun k hk => by rcases hk with hk | hk; exact hq.lt k hk; exact hk.2), hc.mono (fun i _ hi => by rw [hi]; exact h.fd)⟩
      · simp only [if_true]
        obtain ⟨h1, k, rfl, h2⟩ := refused_zero hr
        exact qwrite_fit bw F D k t w h hr h2 (by omega) hg hk hf hws
  · simp only [ne_eq, hr, not_false_eq_true, if_true]
    have hIn := Box.mk (qin_any bw F D n w h)
    generalize D.refused n = e at *
    have hz : (e == 0) = false := by rw [beq_eq_false_iff_ne]; exact hr
    go_enter Try.func32, Try.ntmps32
    go_wp2_with fail
    refine hIn.out.mono ?_
    rintro e w' ⟨rfl, rfl⟩
    clear hIn
    go_wp2_with fail
    go_ret
    exact ⟨rfl, QNext.same h⟩
end Go.Proofs.Ytcccokdbgmejdaa
