/- Walk of the law FlashPlays. -/
import Derived.Test.YtcccokdbgmejdaaFpI
import Derived.Test.YtcccokdbgmejdaaFcD
namespace Go.Proofs.Ytcccokdbgmejdaa
open Go.RowKit

/-- In the law's loop. -/
structure PL (w0 : World) (bd bw N i : Nat) (D : Dev) (w : World) : Prop where
  m : Mix w0.heap.size (fun _ => False) w bd bw D D
  d : DN N i D
  k : Below w0.heap.size w0 w
theorem PL.keep {w0 w w' : World} {bd bw N i : Nat} {D : Dev} (h : PL w0 bd bw N i D w) (hb : Below w.heap.size w w') : PL w0 bd bw N i D w' :=
  ⟨h.m.same hb, h.d, h.k.trans (hb.mono h.k.size)⟩
theorem DN.new (N : Nat) : DN N 0 (Dev.new N) := ⟨by simp [Dev.new], Nat.le_refl _, Nat.le_refl _, Nat.zero_le _⟩
set_option maxHeartbeats 3200000 in
set_option maxRecDepth 100000 in
theorem plays_bad (n : Int) (a : Option Addr) (L C : Nat) (w : World) (hn : n < 1 ∨ 4096 < n) :
    Calls Try.prog 3 #[.int .i64 n, .slice a L C] w fun e w' => e = .returned (.bool true) ∧ Below w.heap.size w w' := by
  have hK := Box.mk (keeps_any w)
  go_enter Try.func3, Try.ntmps3
  go_wp2_with fail
  refine hK.out.mono ?_
  rintro e w1 ⟨rfl, hb1⟩
  replace hb1 := Box.mk hb1
  have hB := Box.mk (begun_bad n w1 hn)
  clear hK hn
  go_wp2_with fail
  refine hB.out.mono ?_
  rintro e w' ⟨rfl, rfl⟩
  clear hB
  go_wp2_with fail
  go_ret
  exact ⟨rfl, hb1.out⟩
set_option maxHeartbeats 6400000 in
set_option maxRecDepth 100000 in
theorem plays_fit (N : Nat) (a : Option Addr) (L C : Nat) (w : World) (h1 : 1 ≤ N) (h2 : N ≤ 4096) (h : OpsAt w a L) (hC : L ≤ C ∧ C ≤ maxLen) :
    Calls Try.prog 3 #[.int .i64 (N : Int), .slice a L C] w fun e w' => e = .returned (.bool true) ∧ Below w.heap.size w w' := by
  unfold maxLen at hC
  obtain ⟨o0, l0, h⟩ := h.list
  replace h := Box.mk (h.take 200)
  obtain ⟨M, hM⟩ : ∃ M, min L 200 = M := ⟨_, rfl⟩
  have z0 : Box ((o0.take 200).length = M) := ⟨by rw [List.length_take]; omega⟩
  generalize o0.take 200 = os at h z0
  clear l0
  have hm : M ≤ L ∧ M ≤ 200 := by omega
  have hmi : Box ((if (200 : Int) < (L : Int) then 200 else (L : Int)) = (M : Int)) := ⟨by split <;> omega⟩
  clear hM
  have hK := Box.mk (keeps_any w)
  go_enter Try.func3, Try.ntmps3
  go_wp2_with fail
  refine hK.out.mono ?_
  rintro e w1 ⟨rfl, hb1⟩
  replace hb1 := Box.mk hb1
  have hB := Box.mk (begun_fit N w1 h1 h2)
  clear hK
  go_wp2_with fail
  refine hB.out.mono ?_
  rintro e w2 ⟨bd, bw, rfl, hM2, hB2⟩
  have hP2 : Box (PL w bd bw N 0 (Dev.new N) w2) := ⟨⟨by
    obtain ⟨Fd, Fw, x1, x2, x3, x4, x5⟩ := hM2.out.out
    have hs := hb1.out.size
    exact ⟨Fd, Fw, x1, x2, fun k hk => ⟨by have := (x3 k hk).1; omega, fun h => h⟩, fun k hk => ⟨by have := (x4 k hk).1; omega, fun h => h⟩, x5⟩, fun _ h => h.elim, by have := hb1.out.size; have := hM2.out.b; omega⟩, DN.new N, hb1.out.trans (hB2.out.mono hb1.out.size)⟩
  clear hB hM2 hB2 hb1
  go_wp2_with (refine wpList_min rfl (.tmp 27) (.const (.int .i64 200)) 3 rfl (L : Int) 200 (M : Int) rfl rfl hmi.out ?_)
  go_loopw [31] (fun s31 wr => ∃ (i : Nat) (D : Dev), i ≤ M ∧ s31 = .int .i64 i ∧ Box (PL w bd bw N i D wr)) (fun s31 _ => M - (intOf s31).toNat)
  case atStart => exact ⟨0, _, by omega, rfl, hP2⟩
  case round =>
    clear hP2
    obtain ⟨i, D, hi, rfl, hK⟩ := hrel
    by_cases hlt : i < M
    · have hio : i < os.length := by have := z0.out; omega
      obtain ⟨cb, co, rfl, hcb, hcw, hcs⟩ := h.out.out (by omega)
      obtain ⟨va, vc, d0, d1, d2, d3, hok, hIv⟩ := hcs i hio
      generalize os[i] = o at d0 d1 d2 d3 hok hIv
      rw [← hK.out.k.cell (p := ⟨cb, _, none⟩) hcb] at d0 d1 d2 d3
      have hnew := Blk.new wr [.int .u8 (o.k.toNat : Int), .int .i64 o.n, .string o.s, .slice va o.f.length vc] 32
      obtain ⟨wn, hwn⟩ : ∃ wn, wr.alloc (.cells #[.int .u8 (o.k.toNat : Int), .int .i64 o.n, .string o.s, .slice va o.f.length vc] 32) = wn := ⟨_, rfl⟩
      have hKn := hK.out.keep (hwn ▸ (Below.refl _ _).alloc (Nat.le_refl _) _ : Below wr.heap.size wr wn)
      rw [hwn] at hnew
      obtain ⟨bo, hbo⟩ : ∃ bo, wr.heap.size = bo := ⟨_, rfl⟩
      rw [hbo] at hnew
      have e0 : wn.cell? ⟨bo, 0, none⟩ = some (.int .u8 (o.k.toNat : Int)) := hnew.cell 0
      have e1 : wn.cell? ⟨bo, 1, none⟩ = some (.int .i64 o.n) := hnew.cell 1
      have e2 : wn.cell? ⟨bo, 2, none⟩ = some (.string o.s) := hnew.cell 2
      have e3 : wn.cell? ⟨bo, 3, none⟩ = some (.slice va o.f.length vc) := hnew.cell 3
      have hSt := Box.mk (step_both w.heap.size (fun _ => False) bd bw N i D wn o va vc hKn.m hKn.d (by omega) h1 hok (hIv.chg (Chg.of_below hKn.k) (fun k hk _ => by omega)))
      have hDo := Box.mk (hKn.d.does o hok)
      have hkn := Box.mk hKn.k
      replace hnew := Box.mk hnew
      clear hcs hK hKn hIv hok
      generalize hvl : o.f.length = vl at *
      go_wp2_with fail
      refine hSt.out.mono ?_
      rintro e w6 ⟨rfl, hM6, hB6⟩
      have hP6 : Box (PL w bd bw N (i + 1) (o.dev D) w6) := ⟨hM6.out, hDo.out, hkn.out.trans hB6.out⟩
      have hTo := Box.mk (told_any w.heap.size (fun _ => False) w6 bd bw N (i + 1) (o.dev D) hM6.out hDo.out (by omega) h1 h2)
      clear hSt hM6 hB6 hkn hDo e0 e1 e2 e3 d0 d1 d2 d3
      generalize o.dev D = D6 at *
      go_wp2_with fail
      refine hTo.out.mono ?_
      rintro e w7 ⟨rfl, hb7⟩
      have hP7 := Box.mk (hP6.out.keep hb7.out)
      clear hTo hP6 hb7
      go_wp2_with fail
      exact ⟨⟨i + 1, D6, by omega, by go_num, hP7⟩, by simp [intOf]; omega⟩
    · have hTo := Box.mk (told_any w.heap.size (fun _ => False) wr bd bw N i D hK.out.m hK.out.d (by omega) h1 h2)
      go_wp2_with fail
      refine hTo.out.mono ?_
      rintro e w7 ⟨rfl, hb7⟩
      have hfin := Box.mk (hK.out.k.trans (hb7.out.mono hK.out.k.size))
      clear hTo hK hb7
      go_wp2_with fail
      go_ret
      exact ⟨rfl, hfin.out⟩
theorem plays_law (n : Int) (a : Option Addr) (L C : Nat) (w : World) (h : OpsAt w a L) (hC : L ≤ C ∧ C ≤ maxLen) :
    Calls Try.prog 3 #[.int .i64 n, .slice a L C] w fun e w' => e = .returned (.bool true) ∧ Below w.heap.size w w' := by
  by_cases hn : n < 1 ∨ 4096 < n
  · exact plays_bad n a L C w hn
  · obtain ⟨N, rfl⟩ : ∃ N : Nat, n = (N : Int) := ⟨n.toNat, by omega⟩
    exact plays_fit N a L C w (by omega) (by omega) h hC
end Go.Proofs.Ytcccokdbgmejdaa
