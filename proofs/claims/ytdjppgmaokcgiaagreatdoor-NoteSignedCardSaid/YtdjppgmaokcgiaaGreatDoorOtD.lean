/- Walk of the program's digits. -/
import Derived.Test.YtdjppgmaokcgiaaGreatDoorOtP
import Derived.Test.YtdjppgmaokcgiaaGreatDoorRefA
namespace Go.Proofs.YtdjppgmaokcgiaaGreatDoor
open Go.RowKit

def zeros18 : Array Value := #[Value.int IntKind.i64 0, Value.int IntKind.i64 0, Value.int IntKind.i64 0, Value.int IntKind.i64 0, Value.int IntKind.i64 0, Value.int IntKind.i64 0, Value.int IntKind.i64 0, Value.int IntKind.i64 0, Value.int IntKind.i64 0, Value.int IntKind.i64 0, Value.int IntKind.i64 0, Value.int IntKind.i64 0, Value.int IntKind.i64 0, Value.int IntKind.i64 0, Value.int IntKind.i64 0, Value.int IntKind.i64 0, Value.int IntKind.i64 0, Value.int IntKind.i64 0]
theorem zeros18_eq : (dcell []).toArray = zeros18 := by kernel_rfl
theorem info_d : (Tryz.prog.info? 78).map (·.size) = some 18 := by kernel_rfl
theorem dcell_one (L : List Nat) : (dcell L).toArray.all (·.oneCell') = true := by
  rw [List.all_toArray, List.all_eq_true]; intro v hv; simp only [dcell, List.mem_map] at hv; obtain ⟨x, _, rfl⟩ := hv; rfl
theorem zeros18_blk (w : World) : Blk (w.alloc (.cells zeros18 78)) w.heap.size (dcell []) 78 := by
  have := Blk.new w (dcell []) 78
  rw [zeros18_eq] at this; exact this
theorem dcell_size (L : List Nat) (h : L.length ≤ 18) : (dcell L).toArray.size = 18 := by simp [dcell_length L h]
/-- Two digits laid in. -/
theorem Blk.two {w : World} {b i q r : Nat} {l : List UInt8} (h : Blk w b (dcell (digP l i)) 78) (hi : i < 8) (hq : lo l i / 16 = q) (hr : lo l i % 16 = r) :
    Blk ((w.setCell ⟨b, 2 * i, none⟩ (.int .i64 (q : Int))).setCell ⟨b, 2 * i + 1, none⟩ (.int .i64 (r : Int))) b (dcell (digP l (i + 1))) 78 := by
  have h1 := (h.setCell (2 * i) (.int .i64 (q : Int))).setCell (2 * i + 1) (.int .i64 (r : Int))
  rw [dcell_push _ q (2 * i) (digP_length l i) (by omega), dcell_push _ r (2 * i + 1) (by rw [List.length_append, digP_length]; rfl) (by omega)] at h1
  rw [digP, hq, hr]
  rwa [List.append_assoc] at h1
theorem Blk.last {w : World} {b q r : Nat} {l : List UInt8} (h : Blk w b (dcell (digP l 8)) 78) (hq : lackN l 8 / 16 = q) (hr : lackN l 8 % 16 = r) :
    Blk ((w.setCell ⟨b, 16, none⟩ (.int .i64 (q : Int))).setCell ⟨b, 17, none⟩ (.int .i64 (r : Int))) b (dcell (digs l)) 78 := by
  have h1 := (h.setCell 16 (.int .i64 (q : Int))).setCell 17 (.int .i64 (r : Int))
  rw [dcell_push _ q 16 (digP_length l 8) (by omega), dcell_push _ r 17 (by rw [List.length_append, digP_length]; rfl) (by omega)] at h1
  rw [digs, hq, hr]
  rwa [List.append_assoc] at h1

set_option maxHeartbeats 1600000 in
set_option maxRecDepth 100000 in
theorem phead_any (s : ByteArray) (w : World) (hs : 8 ≤ s.size) :
    Calls Tryz.prog 144 #[.string s] w fun e w' => e = .returned (.agg (dcell (digs s.data.toList)).toArray) ∧ Below w.heap.size w w' := by
  have hB0 : Box (Below w.heap.size w ((w.alloc (.cells zeros18 78)).alloc (.cells zeros18 78))) := ⟨((Below.refl _ _).alloc (Nat.le_refl _) _).alloc (by simp) _⟩
  have hR0 : Box (Blk ((w.alloc (.cells zeros18 78)).alloc (.cells zeros18 78)) w.heap.size (dcell []) 78) := ⟨(zeros18_blk w).alloc _⟩
  have hD0 : Box (Blk ((w.alloc (.cells zeros18 78)).alloc (.cells zeros18 78)) (w.heap.size + 1) (dcell (digP s.data.toList 0)) 78) := ⟨by
    have := zeros18_blk (w.alloc (.cells zeros18 78))
    rwa [show (w.alloc (.cells zeros18 78)).heap.size = w.heap.size + 1 by simp] at this⟩
  go_enter Tryz.func144, Tryz.ntmps144
  go_wp2_with fail
  go_loopw [4, 5, 6, 7, 8] (fun c _ _ _ q wr => ∃ i : Nat, i ≤ 8 ∧ c = .int .i64 (lackN s.data.toList i : Int) ∧ q = .int .i64 (i : Int) ∧ Box (Blk wr w.heap.size (dcell []) 78) ∧ Box (Blk wr (w.heap.size + 1) (dcell (digP s.data.toList i)) 78) ∧ Box (Below w.heap.size w wr)) (fun _ _ _ _ q _ => 8 - (intOf q).toNat)
  case atStart => exact ⟨0, by omega, rfl, rfl, hR0, hD0, hB0⟩
  case round =>
    clear hR0 hD0 hB0
    obtain ⟨i, hi8, rfl, rfl, hR, hD, hB⟩ := hrel
    have hck := lackN_le s.data.toList i
    by_cases hlt : i < 8
    · have hix : i < s.size := by omega
      obtain ⟨b, hb⟩ : ∃ b : Nat, lo s.data.toList i = b := ⟨_, rfl⟩
      have hbl := lo_lt s.data.toList i
      rw [hb] at hbl
      have hge : ((s[i]'hix).toNat : Int) = (b : Int) := by rw [← hb, lo]; simp [List.getD, hix, ByteArray.getElem_eq_getElem_data]
      obtain ⟨q, hq⟩ : ∃ q, b / 16 = q := ⟨_, rfl⟩
      obtain ⟨r, hr⟩ : ∃ r, b % 16 = r := ⟨_, rfl⟩
      have hqr : q ≤ 15 ∧ r ≤ 15 := by omega
      have e0 : wrap64 ((s[i]'hix).toNat : Int) = (b : Int) := by rw [hge]; exact IntWalk.wrap64_in _ (by omega)
      have e1 : wrap64 ((b : Int).tdiv 16) = (q : Int) := by rw [Int.tdiv_eq_ediv_of_nonneg (by omega), IntWalk.wrap64_in _ (by omega)]; omega
      have e2 : (b : Int).tmod 16 = (r : Int) := by rw [Int.tmod_eq_emod_of_nonneg (by omega)]; omega
      obtain ⟨cc, hcc⟩ : ∃ cc, lackN s.data.toList i = cc := ⟨_, rfl⟩
      have hnext : lackN s.data.toList (i + 1) = cc + (15 - q + (15 - r)) := by rw [lackN, hcc, hb, hq, hr]
      have e3 : (b : Int) / 16 = (q : Int) := by omega
      have hbq : lo s.data.toList i / 16 = q := by rw [hb]; exact hq
      have hbr : lo s.data.toList i % 16 = r := by rw [hb]; exact hr
      replace hbq := Box.mk hbq
      replace hbr := Box.mk hbr
      replace hb := Box.mk hb
      replace hcc := Box.mk hcc
      replace hnext := Box.mk hnext
      rw [hcc.out] at hck ⊢
      go_wp2_with fail
      go_quiet (fail)
      have hR5 : Box (Blk (wr.drewN nq) w.heap.size (dcell []) 78) := ⟨hR.out.drewN nq⟩
      have hD5 : Box (Blk (wr.drewN nq) (w.heap.size + 1) (dcell (digP s.data.toList i)) 78) := ⟨hD.out.drewN nq⟩
      have hB5 : Box (Below w.heap.size w (wr.drewN nq)) := ⟨hB.out.trans (Drawn.below ⟨nq, rfl⟩)⟩
      clear hR hD hB
      generalize wr.drewN nq = w5 at *
      have hfz := hD5.out.free (2 * i)
      have hst := hD5.out.cell (2 * i)
      rw [dcell_zero _ _ (by rw [digP_length]; omega) (by omega)] at hst
      have hD6 := (hD5.out.setCell (2 * i) (.int .i64 (q : Int)))
      rw [dcell_push _ q (2 * i) (digP_length _ i) (by omega)] at hD6
      have hfz1 := hD6.free (2 * i + 1)
      have hst1 := hD6.cell (2 * i + 1)
      rw [dcell_zero _ _ (by rw [List.length_append, digP_length]; simp) (by omega)] at hst1
      have hD2 := Box.mk (hD5.out.two (q := q) (r := r) hlt hbq.out hbr.out)
      clear e0 e1 e2 hge hq hr hD6
      go_wp2_with fail
      have hm : 8 - (intOf (Value.int IntKind.i64 (↑i + 1))).toNat < 8 - (intOf (Value.int IntKind.i64 ↑i)).toNat := by simp [intOf]; omega
      refine ⟨⟨i + 1, by omega, ?_, by go_num, ⟨(hR5.out.setCell_other _ _ (by simp)).setCell_other _ _ (by simp)⟩, hD2, ⟨?_⟩⟩, hm⟩
      · rw [hnext.out]; exact u_eq (by omega)
      · exact Below.setCell (B := w.heap.size) (Below.setCell (B := w.heap.size) hB5.out (by simp) _) (by simp) _
    · obtain rfl : i = 8 := by omega
      obtain ⟨cc, hcc⟩ : ∃ cc, lackN s.data.toList 8 = cc := ⟨_, rfl⟩
      obtain ⟨q, hq⟩ : ∃ q, cc / 16 = q := ⟨_, rfl⟩
      obtain ⟨r, hr⟩ : ∃ r, cc % 16 = r := ⟨_, rfl⟩
      rw [hcc] at hck ⊢
      have e3 : (cc : Int) / 16 = (q : Int) := by omega
      have e4 : (cc : Int) % 16 = (r : Int) := by omega
      have hfz := hD.out.free 16
      have hst := hD.out.cell 16
      rw [dcell_zero _ _ (by rw [digP_length]; omega) (by omega)] at hst
      have hD6 := (hD.out.setCell 16 (.int .i64 (q : Int)))
      rw [dcell_push _ q 16 (digP_length _ 8) (by omega)] at hD6
      have hfz1 := hD6.free 17
      have hst1 := hD6.cell 17
      rw [dcell_zero _ _ (by rw [List.length_append, digP_length]; simp) (by omega)] at hst1
      have hD2 := Box.mk (hD.out.last (q := q) (r := r) (by rw [hcc]; exact hq) (by rw [hcc]; exact hr))
      obtain ⟨w3, hw3⟩ : ∃ w3, (wr.setCell ⟨w.heap.size + 1, 16, none⟩ (.int .i64 (q : Int))).setCell ⟨w.heap.size + 1, 17, none⟩ (.int .i64 (r : Int)) = w3 := ⟨_, rfl⟩
      have hR3 : Box (Blk w3 w.heap.size (dcell []) 78) := ⟨by rw [← hw3]; exact (hR.out.setCell_other _ _ (by simp)).setCell_other _ _ (by simp)⟩
      have hB3 : Box (Below w.heap.size w w3) := ⟨by rw [← hw3]; exact Below.setCell (B := w.heap.size) (Below.setCell (B := w.heap.size) hB.out (by simp) _) (by simp) _⟩
      rw [hw3] at hD2
      have hE : Box (Blk (w3.setRow w.heap.size (dcell (digs s.data.toList)).toArray) w.heap.size (dcell (digs s.data.toList)) 78) := ⟨setRow_blk hR3.out _⟩
      have hBe : Box (Below w.heap.size w (w3.setRow w.heap.size (dcell (digs s.data.toList)).toArray)) := ⟨hB3.out.trans ((setRow_save _ _ _ _).below (Nat.le_refl _))⟩
      clear hD hR hB hq hr hD6 hcc
      go_wp2_with (first | (refine wpList_load_row rfl 78 (.tmp 3) rfl (w.heap.size + 1) rfl 78 (dcell (digs s.data.toList)).toArray (0, 0) _ hD2.out Tryz.underlying78 rfl info_d ?_) | (refine wpList_store_row rfl 78 (.tmp 2) (.tmp 44) rfl w.heap.size (dcell (digs s.data.toList)).toArray rfl rfl 78 (dcell []).toArray hR3.out info_d rfl (dcell_one _) ?_))
      refine bodyPost_ret (v := .agg (dcell (digs s.data.toList)).toArray) (results_cell_row (p := 2) rfl _ _ w.heap.size 78 (dcell (digs s.data.toList)).toArray (0, 0) _ rfl hE.out Tryz.underlying78 rfl info_d) rfl ⟨rfl, hBe.out⟩
end Go.Proofs.YtdjppgmaokcgiaaGreatDoor
