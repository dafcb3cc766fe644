/- Walk of the document's digits. -/
import Derived.Test.YtdjppgmaokcgiaaGreatDoorOtE
namespace Go.Proofs.YtdjppgmaokcgiaaGreatDoor
open Go Go.RowKit

theorem Blk.twoA {w : World} {b i q : Nat} {l : List UInt8} (h : Blk w b (dcell (digP l i)) 78) (hi : i < 8) :
    Blk (w.setCell ⟨b, 2 * i, none⟩ (.int .i64 (q : Int))) b (dcell (digP l i ++ [q])) 78 := by
  have h1 := h.setCell (2 * i) (.int .i64 (q : Int))
  rwa [dcell_push _ q (2 * i) (digP_length l i) (by omega)] at h1
set_option maxHeartbeats 3200000 in
set_option maxRecDepth 100000 in
theorem rdigits_any (t : ByteArray) (w : World) (ht : t.size ≤ 140737488351232) :
    Calls Tryz.prog 45 #[.string t] w fun e w' => e = .returned (.agg (dcell (digs (headL t))).toArray) ∧ Below w.heap.size w w' := by
  have hW1 : Below w.heap.size w (w.alloc (.cells zeros18 78)) := (Below.refl _ _).alloc (Nat.le_refl _) _
  have hR1 : Box (Blk (w.alloc (.cells zeros18 78)) w.heap.size (dcell []) 78) := ⟨zeros18_blk w⟩
  have hs1 : (w.alloc (.cells zeros18 78)).heap.size = w.heap.size + 1 := by simp
  have hsz : (tagL 34 [t]).length ≤ 140737488354000 := by
    simp only [tagL, tagP, List.flatMap_cons, List.flatMap_nil, List.length_cons, List.length_append, data_len, be4_length, List.length_nil]
    omega
  have hF := rtag_parts 34 (.slice (some ⟨w.heap.size + 1, 0, none⟩) 1 1) [t] ((w.alloc (.cells zeros18 78)).alloc (.cells #[.string t] 9)) (by have := parts_new (w.alloc (.cells zeros18 78)) [t] 9; rw [hs1] at this; exact this) hsz (by simp)
  obtain ⟨ts, hTS⟩ : ∃ ts, tagS 34 [t] = ts := ⟨_, rfl⟩
  rw [show hashOf (tagL 34 [t]) = ts from hTS] at hF
  have hts : ts.size = 32 := by rw [← hTS]; exact tagS_size _ _
  have hhl : headL t = ts.data.toList := by rw [← hTS]; rfl
  rw [hhl]
  have hW2 := Box.mk (hW1.alloc (by simp) (.cells #[.string t] 9))
  replace hTS := Box.mk hTS
  clear hW1 hsz hhl
  go_enter Tryz.func45, Tryz.ntmps45
  go_wp2_with fail
  refine hF.mono ?_
  rintro e w3 ⟨rfl, hb3⟩
  clear hF
  have hB3 : Box (Below w.heap.size w w3) := ⟨hW2.out.trans (hb3.mono (by simp; omega))⟩
  have hR3 : Box (Blk w3 w.heap.size (dcell []) 78) := ⟨(hR1.out.alloc _).below hb3 (by simp; omega)⟩
  have hlt3 := hR3.out.lt
  obtain ⟨bd, hbd⟩ : ∃ bd, w3.heap.size = bd := ⟨_, rfl⟩
  have hbd2 : w.heap.size < bd := by omega
  have hD4 : Box (Blk (w3.alloc (.cells zeros18 78)) bd (dcell (digP ts.data.toList 0)) 78) := ⟨by rw [← hbd]; exact zeros18_blk w3⟩
  have hR4 : Box (Blk (w3.alloc (.cells zeros18 78)) w.heap.size (dcell []) 78) := ⟨hR3.out.alloc _⟩
  have hB4 : Box (Below w.heap.size w (w3.alloc (.cells zeros18 78))) := ⟨hB3.out.alloc hB3.out.size _⟩
  clear hb3 hR1 hW2 hR3 hB3 hlt3
  go_wp2_with fail
  replace hbd := Box.mk hbd
  go_loopw [5, 6] (fun c q wr => ∃ i : Nat, i ≤ 8 ∧ c = .int .i64 (lackN ts.data.toList i : Int) ∧ q = .int .i64 (i : Int) ∧ Box (Blk wr w.heap.size (dcell []) 78) ∧ Box (Blk wr bd (dcell (digP ts.data.toList i)) 78) ∧ Box (Below w.heap.size w wr)) (fun _ q _ => 8 - (intOf q).toNat)
  case atStart => exact ⟨0, by omega, rfl, rfl, hR4, hD4, hB4⟩
  case round =>
    clear hR4 hD4 hB4
    obtain ⟨i, hi8, rfl, rfl, hR, hD, hB⟩ := hrel
    have hck := lackN_le ts.data.toList i
    by_cases hlt : i < 8
    · have hix : i < ts.size := by omega
      obtain ⟨b, hb⟩ : ∃ b : Nat, lo ts.data.toList i = b := ⟨_, rfl⟩
      have hbl := lo_lt ts.data.toList i
      rw [hb] at hbl
      have hge : ((ts[i]'hix).toNat : Int) = (b : Int) := by rw [← hb, lo]; simp [List.getD, hix, ByteArray.getElem_eq_getElem_data]
      obtain ⟨q, hq⟩ : ∃ q, b / 16 = q := ⟨_, rfl⟩
      obtain ⟨r, hr⟩ : ∃ r, b % 16 = r := ⟨_, rfl⟩
      have hqr : q ≤ 15 ∧ r ≤ 15 := by omega
      obtain ⟨cc, hcc⟩ : ∃ cc, lackN ts.data.toList i = cc := ⟨_, rfl⟩
      have hnext : lackN ts.data.toList (i + 1) = cc + (15 - q + (15 - r)) := by rw [lackN, hcc, hb, hq, hr]
      have hbq : lo ts.data.toList i / 16 = q := by rw [hb]; exact hq
      have hbr : lo ts.data.toList i % 16 = r := by rw [hb]; exact hr
      have e3 : (b : Int) / 16 = (q : Int) := by omega
      have e4 : (b : Int) % 16 = (r : Int) := by omega
      have hfz := hD.out.free (2 * i)
      have hst := hD.out.cell (2 * i)
      rw [dcell_zero _ _ (by rw [digP_length]; omega) (by omega)] at hst
      have hD6 := hD.out.twoA (q := q) hlt
      have hfz1 := hD6.free (2 * i + 1)
      have hst1 := hD6.cell (2 * i + 1)
      rw [dcell_zero _ _ (by rw [List.length_append, digP_length]; simp) (by omega)] at hst1
      have hD2 := hD.out.two (q := q) (r := r) hlt hbq hbr
      have hg0 := hD2.cell (2 * i)
      have hg1 := hD2.cell (2 * i + 1)
      have hdl := digP_length ts.data.toList i
      have hx0 : (dcell (digP ts.data.toList (i + 1)))[2 * i]? = some (.int .i64 (q : Int)) := by
        rw [digP, hbq, hbr, dcell, List.getElem?_map, List.append_assoc, List.getElem?_append_right (by omega), hdl]; simp
      have hx1 : (dcell (digP ts.data.toList (i + 1)))[2 * i + 1]? = some (.int .i64 (r : Int)) := by
        rw [digP, hbq, hbr, dcell, List.getElem?_map, List.append_assoc, List.getElem?_append_right (by omega), hdl, show 2 * i + 1 - 2 * i = 1 by omega]; simp
      rw [hx0] at hg0
      rw [hx1] at hg1
      obtain ⟨w5, hw5⟩ : ∃ w5, (wr.setCell ⟨bd, 2 * i, none⟩ (.int .i64 (q : Int))).setCell ⟨bd, 2 * i + 1, none⟩ (.int .i64 (r : Int)) = w5 := ⟨_, rfl⟩
      have hR5 : Box (Blk w5 w.heap.size (dcell []) 78) := ⟨by rw [← hw5]; exact (hR.out.setCell_other _ _ (by simp; omega)).setCell_other _ _ (by simp; omega)⟩
      have hB5 : Box (Below w.heap.size w w5) := ⟨by rw [← hw5]; exact Below.setCell (B := w.heap.size) (Below.setCell (B := w.heap.size) hB.out (by simp; omega) _) (by simp; omega) _⟩
      rw [hw5] at hD2 hg0 hg1
      replace hD2 := Box.mk hD2
      replace hbq := Box.mk hbq
      replace hbr := Box.mk hbr
      replace hb := Box.mk hb
      replace hcc := Box.mk hcc
      replace hnext := Box.mk hnext
      rw [hcc.out] at hck ⊢
      clear hR hD hB hx0 hx1 hD6 hdl hq hr
      go_wp2_with fail
      go_quiet (fail)
      go_wp2_with fail
      have hm : 8 - (intOf (Value.int IntKind.i64 (↑i + 1))).toNat < 8 - (intOf (Value.int IntKind.i64 ↑i)).toNat := by simp [intOf]; omega
      exact ⟨⟨i + 1, by omega, by rw [hnext.out]; exact u_eq (by omega), by go_num, ⟨hR5.out.drewN nq⟩, ⟨hD2.out.drewN nq⟩, ⟨hB5.out.trans (Drawn.below ⟨nq, rfl⟩)⟩⟩, hm⟩
    · obtain rfl : i = 8 := by omega
      obtain ⟨cc, hcc⟩ : ∃ cc, lackN ts.data.toList 8 = cc := ⟨_, rfl⟩
      obtain ⟨q, hq⟩ : ∃ q, cc / 16 = q := ⟨_, rfl⟩
      obtain ⟨r, hr⟩ : ∃ r, cc % 16 = r := ⟨_, rfl⟩
      rw [hcc] at hck ⊢
      have e3 : (cc : Int) / 16 = (q : Int) := by omega
      have e4 : (cc : Int) % 16 = (r : Int) := by omega
      have hfz := hD.out.free 16
      have hst := hD.out.cell 16
      rw [dcell_zero _ _ (by rw [digP_length]; omega) (by omega)] at hst
      have hD6 := (hD.out.setCell 16 (.int .i64 (q : Int)))
      rw [dcell_push _ q 16 (digP_length _ 8) (by omega)] at hD6
      have hfz1 := hD6.free 17
      have hst1 := hD6.cell 17
      rw [dcell_zero _ _ (by rw [List.length_append, digP_length]; simp) (by omega)] at hst1
      have hD2 := Box.mk (hD.out.last (q := q) (r := r) (by rw [hcc]; exact hq) (by rw [hcc]; exact hr))
      obtain ⟨w5, hw5⟩ : ∃ w5, (wr.setCell ⟨bd, 16, none⟩ (.int .i64 (q : Int))).setCell ⟨bd, 17, none⟩ (.int .i64 (r : Int)) = w5 := ⟨_, rfl⟩
      have hR5 : Box (Blk w5 w.heap.size (dcell []) 78) := ⟨by rw [← hw5]; exact (hR.out.setCell_other _ _ (by simp; omega)).setCell_other _ _ (by simp; omega)⟩
      have hB5 : Box (Below w.heap.size w w5) := ⟨by rw [← hw5]; exact Below.setCell (B := w.heap.size) (Below.setCell (B := w.heap.size) hB.out (by simp; omega) _) (by simp; omega) _⟩
      rw [hw5] at hD2
      have hE : Box (Blk (w5.setRow w.heap.size (dcell (digs ts.data.toList)).toArray) w.heap.size (dcell (digs ts.data.toList)) 78) := ⟨setRow_blk hR5.out _⟩
      have hBe : Box (Below w.heap.size w (w5.setRow w.heap.size (dcell (digs ts.data.toList)).toArray)) := ⟨hB5.out.trans ((setRow_save _ _ _ _).below (Nat.le_refl _))⟩
      clear hD hR hB hq hr hD6 hcc
      go_wp2_with (first | (refine wpList_load_row rfl 78 (.tmp 4) rfl bd rfl 78 (dcell (digs ts.data.toList)).toArray (0, 0) _ hD2.out Tryz.underlying78 rfl info_d ?_) | (refine wpList_store_row rfl 78 (.tmp 2) (.tmp 50) rfl w.heap.size (dcell (digs ts.data.toList)).toArray rfl rfl 78 (dcell []).toArray hR5.out info_d rfl (dcell_one _) ?_))
      refine bodyPost_ret (v := .agg (dcell (digs ts.data.toList)).toArray) (results_cell_row (p := 2) rfl _ _ w.heap.size 78 (dcell (digs ts.data.toList)).toArray (0, 0) _ rfl hE.out Tryz.underlying78 rfl info_d) rfl ⟨rfl, hBe.out⟩
end Go.Proofs.YtdjppgmaokcgiaaGreatDoor
