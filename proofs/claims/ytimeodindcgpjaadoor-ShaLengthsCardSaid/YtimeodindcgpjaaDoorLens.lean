/- The walk of ShaLengths. -/
import Derived.Deep.OwnRows
import Derived.Test.YtimeodindcgpjaaDoorHashS
import Derived.Test.YtimeodindcgpjaaDoorHas
import Derived.Test.YtimeodindcgpjaaDoorQi
namespace Go.Proofs.YtimeodindcgpjaaDoor
open Go.RowKit

theorem text_of_blk (g : Nat) (l : List UInt8) (n cap : Nat) (hn : n ≤ l.length) (w : World) (hb : Blk w g (l.map yc) 5) :
    (convert 44 9 (.slice (some ⟨g, 0, none⟩) n cap)).run Tryd.prog w = .ok (.string ⟨(l.take n).toArray⟩) w := by
  have hl : (l.take n).length = n := by rw [List.length_take]; omega
  have hc : ∀ i, i < (l.take n).length → w.cell? ⟨g, 0 + i, none⟩ = some (.int .u8 (((l.take n).map Y).getD i 0)) := by
    intro i hi
    have h1 : i < n := by omega
    have h2 : i < l.length := by omega
    rw [Nat.zero_add, hb.cell]
    simp [yc, List.getD, h1, h2]
  have := run_convert_bytes_arg (P := Tryd.prog) w 44 5 Tryd.underlying44 Tryd.underlying5 g 0 (l.take n).length cap ((l.take n).map Y) (by simp) hc 9 Tryd.underlying9
  rw [Y_back, hl] at this; exact this
theorem quiet_convert {P : Program} {ops : Array Oper} {C : World → Prop} {Q : Act → Prop} {a : Act} {o : Oper} {rest : List Oper} (hg : o.guard = none) (src dst : TypeId) (x : Operand) (ho : o.op = .convert src dst x) (v : Value)
    (hv : ∀ w, C w → (convert src dst (a.eval x)).run P w = .ok v w) (h : wpQuiet P ops C Q rest (a.put o.dst v)) : wpQuiet P ops C Q (o :: rest) a := by
  unfold wpQuiet
  have : Region.wanted o (yielded ops a.tmps) = true := by simp [Region.wanted, hg]
  simp only [this, if_true]
  refine ⟨v, fun w hC => ?_, h⟩
  unfold Oper.quietAt
  simp [execOp, ho, hv w hC, Result.andThen, Oper.quietUpon]
theorem made_blk (w : World) (n : Nat) : Blk (w.alloc (.cells (madeCells #[.int .u8 0] n) 5)) w.heap.size ((List.replicate n (0 : UInt8)).map yc) 5 := by
  have h : madeCells #[.int .u8 0] n = ((List.replicate n (0 : UInt8)).map yc).toArray := by
    apply Array.ext'
    rw [List.map_replicate]
    rw [toList_madeCells_one]; rfl
  rw [h]
  exact Blk.new w _ _

set_option maxHeartbeats 800000 in
set_option maxRecDepth 100000 in
theorem law_lens (x y : UInt8) (w : World) (hK : KIs w) :
    Calls Tryd.prog 6 #[.int .u8 (x.toNat : Int), .int .u8 (y.toNat : Int)] w fun e w' => e = .returned (.bool true) ∧ Below w.heap.size w w' := by
  have hH := hashes_any w hK
  replace hK := Box.mk hK
  obtain ⟨i0, hi, hz0, hz1, hz2⟩ := info_parts info5
  obtain ⟨m, hm⟩ : ∃ m, y.toNat % 4 = m := ⟨_, rfl⟩
  have hm4 : m < 4 := by omega
  have hym : (y.toNat : Int).tmod 4 = (m : Int) := by rw [Int.tmod_eq_emod_of_nonneg (by omega)]; omega
  obtain ⟨N, hN⟩ : ∃ N, 64 * m + 70 = N := ⟨_, rfl⟩
  have hyN : 64 * (m : Int) + 70 = (N : Int) := by omega
  replace hN := Box.mk hN
  replace hyN := Box.mk hyN
  go_enter Tryd.func6, Tryd.ntmps6
  go_wp2_with fail
  refine hH.mono ?_
  rintro e w1 ⟨rfl, hb1⟩
  clear hH
  have hK1 := Box.mk (hK.out.below hb1 hK.out.lt)
  have hU1 := Box.mk (made_blk w1 N)
  have hBw := Box.mk (hb1.alloc hb1.size (.cells (madeCells #[.int .u8 0] N) 5))
  have hKw := Box.mk (hK.out.below hBw.out hK.out.lt)
  generalize hw2 : w1.alloc (.cells (madeCells #[.int .u8 0] N) 5) = w2 at hU1 hBw hKw
  obtain ⟨g, hg⟩ : ∃ g, w1.heap.size = g := ⟨_, rfl⟩
  have hgw : w.heap.size ≤ g := by rw [← hg]; exact hb1.size
  rw [hg] at hU1
  replace hb1 := Box.mk hb1
  replace hgw := Box.mk hgw
  have hmk := run_make_row' (P := Tryd.prog) 44 5 (.int .u8 0) 1 Tryd.underlying44 info5 rfl .i64 .i64 N (by have := hN.out; omega) (by have := hN.out; omega) w1
  rw [hw2, hg] at hmk
  replace hmk := Box.mk hmk
  go_wp2_with fail
  rw [hyN.out, hmk.out]
  go_wp2_with fail
  go_loopw [18] (fun q wr => ∃ (i : Nat) (l : List UInt8), i ≤ N ∧ q = .int .i64 i ∧ Box (l.length = N) ∧ Box (Blk wr g (l.map yc) 5) ∧ Box (Below w.heap.size w wr)) (fun q _ => N - (intOf q).toNat)
  case atStart => exact ⟨0, List.replicate N 0, by omega, rfl, ⟨by simp⟩, hU1, ⟨hBw.out⟩⟩
  case round =>
    clear hU1 hBw hKw
    obtain ⟨i, l, hi, rfl, hl, hb, hB⟩ := hrel
    by_cases hlt : i < N
    · have hc : wr.cell? ⟨g, i, none⟩ = some (yc (l.getD i 0)) := by
        have := hl.out
        rw [hb.out.cell, List.getElem?_map]; simp [List.getD, this, hlt]
      have hf := hb.out.free i
      have hiN : i < 400 := by have := hN.out; omega
      obtain ⟨d, hd⟩ : ∃ d : UInt8, ((x.toNat : Int) + (i : Int)) % 256 = (d.toNat : Int) := ⟨UInt8.ofNat ((x.toNat + i) % 256), by rw [UInt8.toNat_ofNat']; omega⟩
      have hb2 : Blk (wr.setCell ⟨g, i, none⟩ (yc d)) g ((l.set i d).map yc) 5 := by rw [List.map_set]; exact hb.out.setCell i (yc d)
      have hB2 : Below w.heap.size w (wr.setCell ⟨g, i, none⟩ (yc d)) := hB.out.setCell (p := ⟨g, i, none⟩) hgw.out _
      replace hb2 := Box.mk hb2
      replace hB2 := Box.mk hB2
      replace hd := Box.mk hd
      go_wp2_with fail
      rw [hd.out]
      exact ⟨⟨i + 1, l.set i d, by omega, by go_num, ⟨by rw [List.length_set]; exact hl.out⟩, hb2, hB2⟩, by simp [intOf]; omega⟩
    · have hbN := Box.mk hN
      have hyM : 64 * (m : Int) + 50 = ((64 * m + 50 : Nat) : Int) := by omega
      have hBr := hB
      have hbr := hb
      clear hb hB
      obtain ⟨n0, hn0⟩ : ∃ n0, 64 * m + 50 = n0 := ⟨_, rfl⟩
      rw [hn0] at hyM
      go_wp2_with fail
      try rw [hyM]
      go_loopw [7] (fun q wr => ∃ n : Nat, n0 ≤ n ∧ n ≤ N + 1 ∧ q = .int .i64 n ∧ Box (Blk wr g (l.map yc) 5) ∧ Box (Below w.heap.size w wr)) (fun q _ => N + 1 - (intOf q).toNat)
      case atStart => exact ⟨n0, by omega, by have := hN.out; omega, rfl, hbr, hBr⟩
      case round =>
        clear hbr hBr
        obtain ⟨n, hn1, hn2, rfl, hb, hB⟩ := hrel
        have hnN : n < 1000 ∧ N < 1000 := by have := hN.out; omega
        have hKr := Box.mk (hK.out.below hB.out hK.out.lt)
        by_cases hlt : n ≤ N
        · have hln := hl.out
          have hcv := Box.mk (text_of_blk g l n N (by omega))
          obtain ⟨t, ht⟩ : ∃ t : ByteArray, (⟨(l.take n).toArray⟩ : ByteArray) = t := ⟨_, rfl⟩
          have htl : t.data.toList = l.take n := by rw [← ht]
          have hts : t.size ≤ 1000 := by rw [← data_len, htl, List.length_take]; omega
          rw [ht] at hcv
          replace ht := Box.mk ht
          replace htl := Box.mk htl
          replace hts := Box.mk hts
          replace hln := Box.mk hln
          clear hi
          go_wp2_with fail
          refine region_calm_at (C := fun w' => Blk w' g (l.map yc) 5) [0, 1, 2, 3, 6, 7, 8, 9] [4, 5, 10, 11] (by kernel_rfl) (by kernel_rfl) rfl (by kernel_rfl) (by kernel_rfl) ?c1 ?_
          case c1 => exact hb.out.drew
          simp [nth]
          repeat (go_big_quiet_step (first | exact fun _ => rfl | rfl))
          refine quiet_convert rfl 44 9 (.tmp 42) rfl (.string t) (fun w' hw' => hcv.out w' hw') ?_
          simp only [Act.put, List.setIfInBounds_toArray, List.set_cons_succ, List.set_cons_zero]
          repeat (go_big_quiet_step (first | exact fun _ => rfl | rfl))
          refine quiet_convert rfl 44 9 (.tmp 48) rfl (.string t) (fun w' hw' => hcv.out w' hw') ?_
          refine wpQuiet_nil ?_
          simp only [Act.put, List.setIfInBounds_toArray, List.set_cons_succ, List.set_cons_zero]
          have hBd : Box (Below w.heap.size w wr.drew) := ⟨hB.out.trans (Drawn.below ⟨1, rfl⟩)⟩
          have hKd := Box.mk (hK.out.below hBd.out hK.out.lt)
          have hbd := Box.mk hb.out.drew
          generalize wr.drew = wd at hKd hBd hbd ⊢
          clear hb hB hKr
          refine chain_step rfl (fun K hK => ?_)
          go_simp
          refine hK _ _ (hbd.out.alloc _) ?_
          clear hK K
          refine chain_step rfl (fun K hK => ?_)
          go_simp
          refine (sum_one t wd hKd.out (by have := hts.out; omega)).mono ?_
          rintro e wa ⟨rfl, hba⟩
          have hbA := Box.mk (hbd.out.below hba hbd.out.lt)
          have hBA := Box.mk (hBd.out.trans (hba.mono hBd.out.size))
          refine hK _ _ hbA.out ?_
          clear hK K hba
          refine chain_step rfl (fun K hK => ?_)
          go_simp
          refine (hash_text t wa (by have := hts.out; omega)).mono ?_
          rintro e wb ⟨rfl, hbb⟩
          have hbB := Box.mk (hbA.out.below hbb hbA.out.lt)
          have hBB := Box.mk (hBA.out.trans (hbb.mono hBA.out.size))
          refine hK _ _ hbB.out ?_
          clear hK K hbb
          refine chain_step rfl (fun K hK => ?_)
          go_simp
          refine hK _ _ hbB.out ?_
          clear hK K
          refine chain_nil ?_
          go_wp2_with fail
          exact ⟨⟨n + 1, by omega, by omega, by go_num, hbB, hBB⟩, by simp [intOf]; omega⟩
        · go_wp2_with fail
          go_ret
          exact ⟨rfl, hB.out⟩
end Go.Proofs.YtimeodindcgpjaaDoor
