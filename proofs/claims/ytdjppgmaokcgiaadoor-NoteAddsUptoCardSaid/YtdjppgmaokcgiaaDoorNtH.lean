/- Walks of the document's Good and Format. -/
import Derived.Test.YtdjppgmaokcgiaaDoorNtG
namespace Go.Proofs.YtdjppgmaokcgiaaDoor.Nt
open Go Go.RowKit

def neB (x : ByteArray) : Bool := !decide (x = ⟨#[]⟩)
theorem ne_b (x : ByteArray) : (!x.toList.isEmpty) = neB x := by
  unfold neB
  have h := tl_eq x ⟨#[]⟩
  have e : (⟨#[]⟩ : ByteArray).toList = [] := by rw [ByteArray.toList_eq]
  rw [e] at h
  rw [← h]
  cases x.toList <;> rfl
theorem gN_doc (t : ByteArray) (sg : List (ByteArray × ByteArray)) : gN (t, sg) = (((lnB t && (lnT t).all neB) && sg.all gS) && decide (0 < (lnT t).length) && decide (sg.length ≤ 16)) := by
  have h1 : gT t.data.toList = (lnB t && (lnT t).all neB && decide (0 < (lnT t).length)) := by
    rw [gT_eq]
    unfold gTd lnB lnT
    rw [List.all_map, List.length_map]
    have e1 : (lnL t.data.toList).2.isEmpty = decide ((lnL t.data.toList).2 = []) := by
      cases (lnL t.data.toList).2 <;> simp
    have e2 : (neB ∘ bT) = (fun a : List UInt8 => !a.isEmpty) := by
      funext a
      show (!decide (bT a = ⟨#[]⟩)) = !a.isEmpty
      cases a with
      | nil => rfl
      | cons x a =>
        have : ¬ bT (x :: a) = ⟨#[]⟩ := fun h => by
          have := congrArg (fun z : ByteArray => z.data.toList) h
          simp [bT] at this
        rw [decide_eq_false this]; rfl
    have e3 : (!(lnL t.data.toList).1.isEmpty) = decide (0 < (lnL t.data.toList).1.length) := by
      cases (lnL t.data.toList).1 <;> simp
    rw [e1, e2, e3]
  show (gT t.data.toList && decide (sg.length ≤ 16) && sg.all gS) = _
  rw [h1]
  generalize lnB t = a
  generalize (lnT t).all neB = b
  generalize decide (0 < (lnT t).length) = c
  generalize decide (sg.length ≤ 16) = d
  generalize sg.all gS = e
  revert a b c d e
  decide
theorem all_take {α : Type} [Inhabited α] (p : α → Bool) (l : List α) (i : Nat) (h : i < l.length) (d : α) : (l.take (i + 1)).all p = ((l.take i).all p && p (l.getD i d)) := by
  rw [List.take_succ_eq_append_getElem h, List.all_append, show l.getD i d = l[i] by simp [List.getD, h]]
  simp
set_option maxHeartbeats 6400000 in
set_option maxRecDepth 100000 in
theorem dgood_any (t : ByteArray) (a : Option Addr) (n c : Nat) (sg : List (ByteArray × ByteArray)) (w : World) (hs : t.size ≤ 1073741824) (hv : SigsAt w (.slice a n c) sg) (hn : sg.length = n) (hm : n ≤ 1073741824) :
    Calls Tryd.prog 33 #[.agg #[.string t, .slice a n c]] w fun e w' => e = .returned (.bool (gN (t, sg))) ∧ Below w.heap.size w w' := by
  obtain ⟨W1, hW1⟩ : ∃ W1, w.alloc (.cells #[.string t, .slice a n c] 33) = W1 := ⟨_, rfl⟩
  have hB1 : Below w.heap.size w W1 := by rw [← hW1]; exact bel_alloc _ _
  have hS1 : Pk.Blk W1 w.heap.size [.string t, .slice a n c] 33 := by rw [← hW1]; exact Pk.Blk.new w _ _
  have s0 : W1.cell? ⟨w.heap.size, 0, none⟩ = some (.string t) := hS1.cell 0
  have hpl := lnT_length t
  have hLn : Calls Tryd.prog 27 #[.string t] W1 fun e wb => ∃ (a : Option Addr) (c : Nat), e = .returned (.tuple #[.slice a (lnT t).length c, .bool (lnB t)]) ∧ Box (PartsAt wb (.slice a (lnT t).length c) (lnT t)) ∧ Box (Below W1.heap.size W1 wb) := (lines_any t W1 hs).mono fun e wb h => by
    obtain ⟨⟨v, h1, h2⟩, h3⟩ := h
    obtain ⟨a, c, rfl⟩ := h2.shape
    exact ⟨a, c, h1, ⟨h2.parts⟩, ⟨h3⟩⟩
  rw [gN_doc]
  obtain ⟨q, hq⟩ : ∃ q, lnT t = q := ⟨_, rfl⟩
  obtain ⟨ok, hok⟩ : ∃ b, lnB t = b := ⟨_, rfl⟩
  rw [hq, hok] at hLn
  rw [hq] at hpl
  rw [hq, hok]
  obtain ⟨L, hLe⟩ : ∃ L, q.length = L := ⟨_, rfl⟩
  rw [hLe] at hLn hpl
  rw [hLe, hn]
  replace hLe := Box.mk hLe
  have hvB := Box.mk hv
  have hnB := Box.mk hn
  replace hB1 := Box.mk hB1
  replace hS1 := Box.mk hS1
  clear hv hn hq hok
  go_enter Tryd.func33, Tryd.ntmps33
  go_wp2_with fail
  refine hLn.mono ?_
  clear hLn
  rintro e wb ⟨ga, gc, rfl, hP, hBb⟩
  have hB2 := Box.mk (mono_bel hB1.out hBb.out (Nat.le_refl _))
  have hS2 := Box.mk ((hBb.out.block _ (Pk.Blk.lt hS1.out)).trans hS1.out)
  have s1 : wb.cell? ⟨w.heap.size, 1, none⟩ = some (.slice a n c) := Pk.Blk.cell hS2.out 1
  have h00 : Box (ok = (ok && (q.take 0).all neB)) := ⟨by simp⟩
  clear s0 hW1 hB1 hBb
  go_wp2_with fail
  go_loop [4, 5] (fun o q' => ∃ (i : Nat) (b : Bool), i ≤ L ∧ q' = .int .i64 (i : Int) ∧ o = .bool b ∧ Box (b = (ok && (q.take i).all neB))) (fun _ q' => L - (intOf q').toNat)
  case atStart => exact ⟨0, ok, by omega, rfl, rfl, h00⟩
  case round =>
    clear h00
    obtain ⟨i, b, hi, rfl, rfl, hb⟩ := hrel
    by_cases hlt : i < L
    · have hat := all_take neB q i (by rw [hLe.out]; exact hlt) ByteArray.empty
      obtain ⟨ga2, gc2, e2, hcl⟩ := hP.out.ex
      rw [hLe.out] at e2 hcl
      cases e2
      obtain ⟨g, off, rfl, hglt, hcell⟩ := hcl (by omega)
      have p1 := hcell i hlt
      obtain ⟨x, hx⟩ : ∃ x, q.getD i ByteArray.empty = x := ⟨_, rfl⟩
      rw [hx] at hat p1
      have hii : (i : Int) < (L : Int) := by omega
      cases b with
      | false =>
        have hn2 : Box (false = (ok && (q.take (i + 1)).all neB)) := ⟨by rw [hat, ← Bool.and_assoc, ← hb.out, Bool.false_and]⟩
        clear hat hb hcell hcl hx
        go_wp2_with fail
        go_round
        case rel => exact ⟨i + 1, false, by omega, by go_num, rfl, hn2⟩
        case measure => simp [intOf]; omega
      | true =>
        have hn2 : Box (neB x = (ok && (q.take (i + 1)).all neB)) := ⟨by rw [hat, ← Bool.and_assoc, ← hb.out, Bool.true_and]⟩
        clear hat hb hcell hcl hx
        go_wp2_with fail
        go_round
        case rel => exact ⟨i + 1, neB x, by omega, by go_num, by rw [ne_b], hn2⟩
        case measure => simp [intOf]; omega
    · obtain rfl : i = L := by omega
      rw [← hLe.out, List.take_length] at hb
      obtain ⟨b1, hb1⟩ : ∃ b1, b = b1 := ⟨_, rfl⟩
      rw [hb1] at hb ⊢
      have h00 : Box (b1 = (b1 && (sg.take 0).all gS)) := ⟨by simp⟩
      clear hP
      go_wp2_with fail
      go_loop [4, 6] (fun o q' => ∃ (i : Nat) (b : Bool), i ≤ n ∧ q' = .int .i64 (i : Int) ∧ o = .bool b ∧ Box (b = (b1 && (sg.take i).all gS))) (fun _ q' => n - (intOf q').toNat)
      case atStart => exact ⟨0, b1, by omega, rfl, rfl, h00⟩
      case round =>
        clear h00
        obtain ⟨j, r, hj, rfl, rfl, hr⟩ := hrel
        by_cases hlt2 : j < n
        · have hjg : j < sg.length := by rw [hnB.out]; exact hlt2
          have hat := all_take gS sg j hjg default
          obtain ⟨g1, o1, rfl, k0, k1⟩ := (hvB.out.here (mono_bel hB2.out (Below.refl _ _) (Nat.le_refl _))).at j hjg
          obtain ⟨x, hx⟩ : ∃ x, sg.getD j default = x := ⟨_, rfl⟩
          rw [hx] at hat k0 k1
          obtain ⟨x1, x2⟩ := x
          simp only at k0 k1
          have hii : (j : Int) < (n : Int) := by omega
          cases r with
          | false =>
            have hn2 : Box (false = (b1 && (sg.take (j + 1)).all gS)) := ⟨by rw [hat, ← Bool.and_assoc, ← hr.out, Bool.false_and]⟩
            clear hat hr hx hjg
            go_wp2_with fail
            go_round
            case rel => exact ⟨j + 1, false, by omega, by go_num, rfl, hn2⟩
            case measure => simp [intOf]; omega
          | true =>
            have hn2 : Box (gS (x1, x2) = (b1 && (sg.take (j + 1)).all gS)) := ⟨by rw [hat, ← Bool.and_assoc, ← hr.out, Bool.true_and]⟩
            have hg : gS (x1, x2) = (decide (x1.size = 32) && decide (1 ≤ x2.size) && decide (x2.size ≤ 1024)) := rfl
            clear hat hr hx hjg
            by_cases m1 : x1.size = 32
            · have d1 : ((x1.size : Int) == 32) = true := by rw [m1]; rfl
              by_cases m2 : 1 ≤ x2.size
              · by_cases m3 : x2.size ≤ 1024
                · rw [hg, decide_eq_true m1, decide_eq_true m2, decide_eq_true m3] at hn2
                  clear hg m1
                  go_wp2_with fail
                  go_round
                  case rel => exact ⟨j + 1, true, by omega, by go_num, by first | rfl | (simp <;> omega), hn2⟩
                  case measure => simp [intOf]; omega
                · rw [hg, decide_eq_true m1, decide_eq_true m2, decide_eq_false m3] at hn2
                  clear hg m1
                  go_wp2_with fail
                  go_round
                  case rel => exact ⟨j + 1, false, by omega, by go_num, by first | rfl | (simp <;> omega), hn2⟩
                  case measure => simp [intOf]; omega
              · rw [hg, decide_eq_true m1, decide_eq_false m2] at hn2
                clear hg m1
                go_wp2_with fail
                go_round
                case rel => exact ⟨j + 1, false, by omega, by go_num, by first | rfl | (simp <;> omega), hn2⟩
                case measure => simp [intOf]; omega
            · have d1 : ((x1.size : Int) == 32) = false := by simpa using (by omega : (x1.size : Int) ≠ 32)
              rw [hg, decide_eq_false m1] at hn2
              clear hg m1
              go_wp2_with fail
              go_round
              case rel => exact ⟨j + 1, false, by omega, by go_num, rfl, hn2⟩
              case measure => simp [intOf]; omega
        · obtain rfl : j = n := by omega
          rw [← hnB.out, List.take_length, hb.out] at hr
          cases r with
          | false =>
            have hfin := Box.mk hr.out
            clear hr
            go_wp2_with fail
            go_ret
            exact ⟨ret_b (by rw [← hfin.out]; rfl), hB2.out⟩
          | true =>
            have hfin := Box.mk hr.out
            clear hr
            by_cases m1 : 0 < i
            · by_cases m2 : j ≤ 16
              · go_wp2_with fail
                go_ret
                exact ⟨ret_b (by first | rfl | (rw [← hfin.out]; simp <;> omega) | (simp <;> omega)), hB2.out⟩
              · go_wp2_with fail
                go_ret
                exact ⟨ret_b (by first | rfl | (rw [← hfin.out]; simp <;> omega) | (simp <;> omega)), hB2.out⟩
            · go_wp2_with fail
              go_ret
              exact ⟨ret_b (by first | rfl | (rw [← hfin.out]; simp <;> omega) | (simp <;> omega)), hB2.out⟩
theorem bT_next (t : ByteArray) (sg : List (ByteArray × ByteArray)) (i : Nat) (h : i < sg.length) : bT (fmL t sg i) ++ sSig ++ hxT (sg.getD i default).1 ++ sBl ++ hxT (sg.getD i default).2 ++ sN = bT (fmL t sg (i + 1)) := by
  refine ba_ext ?_
  show _ = fmL t sg (i + 1)
  rw [fmL_succ t sg i h]
  simp only [ByteArray.data_append, Array.toList_append, List.append_assoc]
  rfl
theorem bT_size (l : List UInt8) : (bT l).size = l.length := rfl
set_option maxHeartbeats 6400000 in
set_option maxRecDepth 100000 in
theorem dformat_any (t : ByteArray) (a : Option Addr) (n c : Nat) (sg : List (ByteArray × ByteArray)) (w : World) (hs : t.size ≤ 1073741824) (hv : SigsAt w (.slice a n c) sg) (hn : sg.length = n) (hm : n ≤ 1073741824) :
    Calls Tryd.prog 13 #[.agg #[.string t, .slice a n c]] w fun e w' => e = .returned (fmV (t, sg)) ∧ Below w.heap.size w w' := by
  obtain ⟨W1, hW1⟩ : ∃ W1, w.alloc (.cells #[.string t, .slice a n c] 33) = W1 := ⟨_, rfl⟩
  have hB1 : Below w.heap.size w W1 := by rw [← hW1]; exact bel_alloc _ _
  have hS1 : Pk.Blk W1 w.heap.size [.string t, .slice a n c] 33 := by rw [← hW1]; exact Pk.Blk.new w _ _
  have s0 : W1.cell? ⟨w.heap.size, 0, none⟩ = some (.string t) := hS1.cell 0
  have s1 : W1.cell? ⟨w.heap.size, 1, none⟩ = some (.slice a n c) := hS1.cell 1
  have hF := dgood_any t a n c sg W1 hs (hv.here hB1) hn hm
  cases hg : gN (t, sg) with
  | false =>
    rw [hg] at hF
    rw [fmV_no hg]
    replace hB1 := Box.mk hB1
    clear hv hn hs hS1 hg
    go_enter Tryd.func13, Tryd.ntmps13
    go_wp2_with fail
    refine hF.mono ?_
    clear hF
    rintro e w1 ⟨rfl, hb1⟩
    replace hb1 := Box.mk hb1
    go_wp2_with fail
    go_ret2
    exact ⟨rfl, mono_bel hB1.out hb1.out (Nat.le_refl _)⟩
  | true =>
    rw [hg] at hF
    rw [fmV_yes hg]
    obtain ⟨_, g2, g3⟩ := gN_iff.1 hg
    have hlen := Box.mk (fmL_len hg)
    have hz0 : Box (t ++ ⟨#[10]⟩ = bT (fmL t sg 0)) := ⟨ba_ext (by show _ = fmL t sg 0; rw [fmL_zero]; rfl)⟩
    have hsu := Box.mk (bT_next t sg)
    have hall : Box (bT (fmL t sg n) = ⟨(byN (t, sg)).toArray⟩) := ⟨by rw [← hn, fmL_all]; rfl⟩
    have hvB := Box.mk (hv.here hB1)
    have hnB := Box.mk hn
    replace g3 := Box.mk g3
    rw [hn] at g2
    replace hB1 := Box.mk hB1
    replace hS1 := Box.mk hS1
    clear hv hg hn hm
    go_enter Tryd.func13, Tryd.ntmps13
    go_wp2_with fail
    refine hF.mono ?_
    clear hF
    rintro e w1 ⟨rfl, hb1⟩
    have hS2 := Box.mk ((hb1.block _ hS1.out.lt).trans hS1.out)
    have hB2 := Box.mk (mono_bel hB1.out hb1 (Nat.le_refl _))
    have hv2 := Box.mk (hvB.out.here hb1)
    have s0 : w1.cell? ⟨w.heap.size, 0, none⟩ = some (.string t) := Pk.Blk.cell hS2.out 0
    have hB0 : Box (Below w1.heap.size w1 w1) := ⟨Below.refl _ _⟩
    have hbb1 : w.heap.size < w1.heap.size := Pk.Blk.lt hS2.out
    have hd1 : t.size + 1 ≤ 9223372036854775807 := by omega
    clear hb1 hS1 hvB hB1 hW1
    go_wp2_with fail
    go_loopw [4, 5] (fun z q wr => ∃ i : Nat, i ≤ n ∧ q = .int .i64 (i : Int) ∧ z = .string (bT (fmL t sg i)) ∧ Box (Below w1.heap.size w1 wr)) (fun _ q _ => n - (intOf q).toNat)
    case atStart => exact ⟨0, by omega, rfl, by rw [← hz0.out], hB0⟩
    case round =>
      clear hB0 s0 hz0
      obtain ⟨i, hi, rfl, rfl, hB⟩ := hrel
      have s1 : wr.cell? ⟨w.heap.size, 1, none⟩ = some (.slice a n c) := (hB.out.cell (p := ⟨w.heap.size, 1, none⟩) hbb1).trans (Pk.Blk.cell hS2.out 1)
      by_cases hlt : i < n
      · have hig : i < sg.length := by rw [hnB.out]; exact hlt
        have hvr := hv2.out.here hB.out
        obtain ⟨b1, o1, rfl, k0, k1⟩ := hvr.at i hig
        have hsi := hsu.out i hig
        have hxs := g3.out _ (mem_getD hig)
        have hln := hlen.out i
        have hcc : Box (∀ w', Below wr.heap.size wr w' → w'.cell? ⟨b1, o1 + i * 2, none⟩ = some (.string (sg.getD i default).1) ∧ w'.cell? ⟨b1, o1 + i * 2 + 1, none⟩ = some (.string (sg.getD i default).2)) := ⟨fun w' hw => by
          obtain ⟨b3, o3, e3, j0, j1⟩ := (hvr.here hw).at i hig
          cases e3
          exact ⟨j0, j1⟩⟩
        obtain ⟨x, hx⟩ : ∃ x, sg.getD i default = x := ⟨_, rfl⟩
        rw [hx] at hcc hsi hxs
        obtain ⟨x1, x2⟩ := x
        simp only at hcc hsi hxs
        obtain ⟨e1, e2, e3⟩ := hxs
        have hii : (i : Int) < (n : Int) := by omega
        obtain ⟨Z, hZ⟩ : ∃ Z, bT (fmL t sg i) = Z := ⟨_, rfl⟩
        have hZs : Z.size ≤ 1073741824 + 35217 := by rw [← hZ, bT_size]; omega
        rw [hZ] at hsi ⊢
        have hsz : Box ((hxT x1).size = 64 ∧ (hxT x2).size ≤ 2048 ∧ Z.size ≤ 1073741824 + 35217) := ⟨by rw [hxT_size, e1], by rw [hxT_size]; omega, hZs⟩
        have hH1 := Box.mk (fun w' => rhex_any x1 w' (by omega))
        have hH2 := Box.mk (fun w' => rhex_any x2 w' (by omega))
        have hlt' : w.heap.size < wr.heap.size := Nat.lt_of_lt_of_le hbb1 hB.out.size
        have hs1 := Box.mk (fun w' (hw : Below wr.heap.size wr w') => (hw.cell (p := ⟨w.heap.size, 1, none⟩) hlt').trans s1)
        replace hsi := Box.mk hsi
        clear hx hig hln e1 e2 e3 hvr k0 k1 hZ hZs hlt'
        go_wp2_with fail
        refine region_quiet (fun w' => Below wr.heap.size wr w') (by kernel_rfl) (by kernel_rfl) (dB _) ?_
        repeat (go_big_quiet_step (first | exact fun _ => rfl | rfl))
        refine quiet_val rfl (.string (Z ++ sSig)) (fun w' _ => by unfold sSig; go_simp; have := hsz.out; omega) ?_
        simp only [Act.put, List.setIfInBounds_toArray, List.set_cons_succ, List.set_cons_zero]
        repeat (go_big_quiet_step (first | exact fun _ => rfl | rfl))
        refine quiet_val rfl (.slice (some ⟨b1, o1, none⟩) n c) (fun w' hw' => by have h3 := hs1.out w' hw'; go_simp) ?_
        simp only [Act.put, List.setIfInBounds_toArray, List.set_cons_succ, List.set_cons_zero]
        repeat (go_big_quiet_step (first | exact fun _ => rfl | rfl))
        refine quiet_val rfl (.string x1) (fun w' hw' => by have h3 := (hcc.out w' hw').1; go_simp) ?_
        simp only [Act.put, List.setIfInBounds_toArray, List.set_cons_succ, List.set_cons_zero]
        repeat (go_big_quiet_step (first | exact fun _ => rfl | rfl))
        refine quiet_call rfl (.string (hxT x1)) (fun w' hw' => bel_call (hH1.out w') hw') (fun w' _ => by go_simp) ?_
        simp only [Act.put, List.setIfInBounds_toArray, List.set_cons_succ, List.set_cons_zero]
        repeat (go_big_quiet_step (first | exact fun _ => rfl | rfl))
        refine quiet_val rfl (.string (Z ++ sSig ++ hxT x1)) (fun w' _ => by go_simp; have := hsz.out; have z1 : sSig.size = 4 := rfl; omega) ?_
        simp only [Act.put, List.setIfInBounds_toArray, List.set_cons_succ, List.set_cons_zero]
        repeat (go_big_quiet_step (first | exact fun _ => rfl | rfl))
        refine quiet_val rfl (.string (Z ++ sSig ++ hxT x1 ++ sBl)) (fun w' _ => by unfold sBl; go_simp; have := hsz.out; have z1 : sSig.size = 4 := rfl; omega) ?_
        simp only [Act.put, List.setIfInBounds_toArray, List.set_cons_succ, List.set_cons_zero]
        repeat (go_big_quiet_step (first | exact fun _ => rfl | rfl))
        refine quiet_val rfl (.slice (some ⟨b1, o1, none⟩) n c) (fun w' hw' => by have h3 := hs1.out w' hw'; go_simp) ?_
        simp only [Act.put, List.setIfInBounds_toArray, List.set_cons_succ, List.set_cons_zero]
        repeat (go_big_quiet_step (first | exact fun _ => rfl | rfl))
        refine quiet_val rfl (.string x2) (fun w' hw' => by have h3 := (hcc.out w' hw').2; go_simp) ?_
        simp only [Act.put, List.setIfInBounds_toArray, List.set_cons_succ, List.set_cons_zero]
        repeat (go_big_quiet_step (first | exact fun _ => rfl | rfl))
        refine quiet_call rfl (.string (hxT x2)) (fun w' hw' => bel_call (hH2.out w') hw') (fun w' _ => by go_simp) ?_
        simp only [Act.put, List.setIfInBounds_toArray, List.set_cons_succ, List.set_cons_zero]
        repeat (go_big_quiet_step (first | exact fun _ => rfl | rfl))
        refine quiet_val rfl (.string (Z ++ sSig ++ hxT x1 ++ sBl ++ hxT x2)) (fun w' _ => by go_simp; have := hsz.out; have z1 : sSig.size = 4 := rfl; have z2 : sBl.size = 1 := rfl; omega) ?_
        simp only [Act.put, List.setIfInBounds_toArray, List.set_cons_succ, List.set_cons_zero]
        repeat (go_big_quiet_step (first | exact fun _ => rfl | rfl))
        refine quiet_val rfl (.string (Z ++ sSig ++ hxT x1 ++ sBl ++ hxT x2 ++ sN)) (fun w' _ => by unfold sN; go_simp; have := hsz.out; have z1 : sSig.size = 4 := rfl; have z2 : sBl.size = 1 := rfl; omega) ?_
        simp only [Act.put, List.setIfInBounds_toArray, List.set_cons_succ, List.set_cons_zero]
        repeat (go_big_quiet_step (first | exact fun _ => rfl | rfl))
        refine wpQuiet_nil ?_
        intro w5 hw5
        have hB5 := Box.mk (mono_bel hB.out hw5 (Nat.le_refl _))
        rw [hsi.out]
        clear hH1 hH2 hsz hs1 hcc hB s1 hsi hw5
        go_wp2_with fail
        exact ⟨⟨i + 1, by omega, by go_num, rfl, hB5⟩, by simp [intOf]; omega⟩
      · obtain rfl : i = n := by omega
        have hfin := Box.mk (mono_bel hB2.out hB.out (Nat.le_refl _))
        clear hB
        go_wp2_with fail
        go_ret2
        exact ⟨by rw [← hall.out]; rfl, hfin.out⟩
end Go.Proofs.YtdjppgmaokcgiaaDoor.Nt
