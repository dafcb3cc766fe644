/- Walks of note.readSig, readSigs. -/
import Derived.Test.YthnbhaffphopoaaGreatDoorHng
namespace Go.Proofs.YthnbhaffphopoaaGreatDoor.Nt
open Go Go.RowKit

theorem cutL_len (l p : List UInt8) : (Lib.cut l p).1.length ≤ l.length ∧ (Lib.cut l p).2.1.length ≤ l.length := by
  unfold Lib.cut
  split
  · exact ⟨by rw [List.length_take]; exact Nat.min_le_right _ _, by rw [List.length_drop]; omega⟩
  · exact ⟨Nat.le_refl _, Nat.zero_le _⟩
theorem trimL_len (l p : List UInt8) : (Lib.trimPrefix l p).length ≤ l.length := by
  unfold Lib.trimPrefix
  split
  · rw [List.length_drop]; omega
  · exact Nat.le_refl _
theorem rdS_size (l : List UInt8) : (rdS l).1.size ≤ l.length ∧ (rdS l).2.size ≤ l.length := by
  have h1 := trimL_len l lSig
  have h2 := cutL_len (Lib.trimPrefix l lSig) [32]
  have h3 := unT_size (bT (Lib.cut (Lib.trimPrefix l lSig) [32]).1)
  have h4 := unT_size (bT (Lib.cut (Lib.trimPrefix l lSig) [32]).2.1)
  rw [bT_size] at h3 h4
  unfold rdS
  exact ⟨by show (unT _).size ≤ _; exact Nat.le_trans h3 (by omega), by show (unT _).size ≤ _; exact Nat.le_trans h4 (by omega)⟩
set_option maxHeartbeats 1600000 in
set_option maxRecDepth 100000 in
theorem readsig_any (s : ByteArray) (B : Nat) (w : World) (hL : NL B w) (hB : B ≤ w.heap.size) (hs : s.size ≤ 1073741824) :
    Calls Tryz.prog 143 #[.string s] w fun e w' => e = .returned (.agg #[.string (rdS s.data.toList).1, .string (rdS s.data.toList).2]) ∧ Below w.heap.size w w' := by
  obtain ⟨l, hl⟩ : ∃ l, s.data.toList = l := ⟨_, rfl⟩
  have hlen : l.length = s.size := by rw [← hl, data_len]
  have hT := Tryz.strings_TrimPrefix s ⟨#[115, 105, 103, 32]⟩
  rw [hl, show (⟨#[115, 105, 103, 32]⟩ : ByteArray).data.toList = lSig from rfl] at hT
  have hR : rdS l = (unT (Lib.cut (Lib.trimPrefix l lSig) [32]).1, unT (Lib.cut (Lib.trimPrefix l lSig) [32]).2.1) := rfl
  have n0 := trimL_len l lSig
  obtain ⟨tp, htp⟩ : ∃ tp, Lib.trimPrefix l lSig = tp := ⟨_, rfl⟩
  rw [htp] at hT hR n0
  have n1 := cutL_len tp [32]
  have hC := fun k w' hk => Tryz.strings_Cut (bT tp) ⟨#[32]⟩ k w' (by rw [bT_size]; omega) hk
  rw [show (bT tp).data.toList = tp from rfl, show (⟨#[32]⟩ : ByteArray).data.toList = [32] from rfl] at hC
  obtain ⟨x, y, b, hc⟩ : ∃ x y b, Lib.cut tp [32] = (x, y, b) := ⟨_, _, _, rfl⟩
  rw [hc] at hC hR n1
  simp only at hC hR n1
  rw [hl, hR]
  have hU1 := Box.mk (fun w' => nunhex_any (bT x) w' (by rw [bT_size]; omega))
  have hU2 := Box.mk (fun w' => nunhex_any (bT y) w' (by rw [bT_size]; omega))
  rw [show (bT x).data.toList = x from rfl] at hU1
  rw [show (bT y).data.toList = y from rfl] at hU2
  obtain ⟨X, hX⟩ : ∃ X, unT x = X := ⟨_, rfl⟩
  obtain ⟨Y, hY⟩ : ∃ Y, unT y = Y := ⟨_, rfl⟩
  rw [hX] at hU1 ⊢
  rw [hY] at hU2 ⊢
  unfold bT at hU1 hU2 hC
  have hS := Box.mk (Pk.Blk.new w [.string ⟨#[]⟩, .string ⟨#[]⟩] 78)
  obtain ⟨wa, hwa⟩ : ∃ wa, w.alloc (.cells #[.string ⟨#[]⟩, .string ⟨#[]⟩] 78) = wa := ⟨_, rfl⟩
  have hSa : Box (Pk.Blk wa w.heap.size [.string ⟨#[]⟩, .string ⟨#[]⟩] 78) := ⟨by rw [← hwa]; exact Pk.Blk.new w _ _⟩
  have hBa : Box (Below w.heap.size w wa) := ⟨by rw [← hwa]; exact bel_alloc _ _⟩
  obtain ⟨k, hk⟩ := (hL.here hB hBa.out).m
  have hC1 := hC k wa hk
  clear hl hlen hR n0 htp n1 hc hX hY hS hL hB hk hC hs
  go_enter Tryz.func143, Tryz.ntmps143
  go_wp2_with fail
  refine (hT _).mono ?_
  clear hT hwa
  rintro e w1 ⟨rfl, hw1⟩
  obtain rfl : wa = w1 := hw1.symm
  go_wp2_with fail
  refine hC1.mono ?_
  clear hC1
  rintro e w2 ⟨rfl, nq, hw2⟩
  have hb2 : Below wa.heap.size wa w2 := by rw [hw2]; exact Drawn.below ⟨nq, rfl⟩
  have hB2 := Box.mk (mono_bel hBa.out hb2 (Nat.le_refl _))
  have hS2 := Box.mk ((hb2.block _ (Pk.Blk.lt hSa.out)).trans hSa.out)
  clear hw2 hb2 hBa hSa
  go_wp2_with fail
  refine (hU1.out _).mono ?_
  clear hU1
  rintro e w3 ⟨rfl, hb3⟩
  have hB3 := Box.mk (mono_bel hB2.out hb3 (Nat.le_refl _))
  have hS3 := Box.mk ((hb3.block _ (Pk.Blk.lt hS2.out)).trans hS2.out)
  clear hb3 hB2 hS2
  go_wp2_with fail
  refine (hU2.out _).mono ?_
  clear hU2
  rintro e w4 ⟨rfl, hb4⟩
  have hB4 := Box.mk (mono_bel hB3.out hb4 (Nat.le_refl _))
  have hS4 : Pk.Blk w4 w.heap.size [.string ⟨#[]⟩, .string ⟨#[]⟩] 78 := (hb4.block _ (Pk.Blk.lt hS3.out)).trans hS3.out
  have c0 := hS4.cell 0
  have c1 := hS4.cell 1
  have f0 := hS4.free 0
  have f1 := hS4.free 1
  simp only [List.getElem?_cons_zero, List.getElem?_cons_succ] at c0 c1
  have hf : Box (Pk.Blk ((w4.setCell ⟨w.heap.size, 0, none⟩ (.string X)).setCell ⟨w.heap.size, 1, none⟩ (.string Y)) w.heap.size [.string X, .string Y] 78 ∧ Below w.heap.size w ((w4.setCell ⟨w.heap.size, 0, none⟩ (.string X)).setCell ⟨w.heap.size, 1, none⟩ (.string Y))) :=
    ⟨(hS4.setCell 0 (.string X)).setCell 1 (.string Y), (hB4.out.setCell (p := ⟨w.heap.size, 0, none⟩) (Nat.le_refl _) _).setCell (p := ⟨w.heap.size, 1, none⟩) (Nat.le_refl _) _⟩
  clear hb4 hB3 hS3 hS4
  go_wp2_with fail
  have k0 : ((w4.setCell ⟨w.heap.size, 0, none⟩ (.string X)).setCell ⟨w.heap.size, 1, none⟩ (.string Y)).cell? ⟨w.heap.size, 0, none⟩ = some (.string X) := hf.out.1.cell 0
  have k1 : ((w4.setCell ⟨w.heap.size, 0, none⟩ (.string X)).setCell ⟨w.heap.size, 1, none⟩ (.string Y)).cell? ⟨w.heap.size, 1, none⟩ = some (.string Y) := hf.out.1.cell 1
  clear c0 c1 f0 f1
  refine bodyPost_ret (v := .agg #[.string X, .string Y]) (by simp [results, Tryz.results143, go_sem, k0, k1]; try rfl) rfl ⟨rfl, hf.out.2⟩
/-- A new block with one signature. -/
theorem sig_new (w : World) (x : ByteArray × ByteArray) : SigsAt (w.alloc (.cells #[.string x.1, .string x.2] 78)) (.slice (some ⟨w.heap.size, 0, none⟩) 1 1) [x] := by
  have h : Pk.Blk (w.alloc (.cells #[.string x.1, .string x.2] 78)) w.heap.size [.string x.1, .string x.2] 78 := Pk.Blk.new w _ _
  refine ⟨_, _, rfl, fun _ => ⟨w.heap.size, 0, rfl, by simp, fun i hi => ?_⟩⟩
  obtain rfl : i = 0 := by simpa using hi
  exact ⟨h.cell 0, h.cell 1⟩
def lenV : Value → Nat | .slice _ n _ => n | _ => 0
def RdsI (w0 : World) (sg : List (ByteArray × ByteArray)) (e : Ending) (w' : World) : Prop := ∃ v, e = .returned v ∧ SgRow w0 w' v sg
theorem rdsL_step (n : Nat) (rest : List UInt8) (h : rest ≠ []) : rdsL (n + 1) rest = rdS (Lib.cut rest nl).1 :: rdsL n (Lib.cut rest nl).2.1 := by rw [rdsL, if_neg h]
theorem rdsL_nil (n : Nat) : rdsL n [] = [] := by cases n <;> rfl
set_option maxHeartbeats 3200000 in
set_option maxRecDepth 100000 in
theorem readsigs_any (s : ByteArray) (B : Nat) (w : World) (hL : NL B w) (hB : B ≤ w.heap.size) (hs : s.size ≤ 1073741824) :
    Calls Tryz.prog 77 #[.string s] w (RdsI w (rdsL 17 s.data.toList)) := by
  obtain ⟨R, hR⟩ : ∃ R, rdsL 17 s.data.toList = R := ⟨_, rfl⟩
  have hA0 : Box (SgRow w w (.slice none 0 0) [] ∧ [] ++ rdsL (17 - 0) s.data.toList = R) := ⟨⟨Pk.Row.nil _ _ _, (fun k hk => by cases hk), Below.refl _ _⟩, by rw [← hR]; rfl⟩
  have hLB := Box.mk (And.intro hL hB)
  obtain ⟨i0, hi, hz0, hz1, hz2⟩ := info_parts info_sig
  have hH := Box.mk (And.intro hi (And.intro hz0 (And.intro hz1 hz2)))
  rw [hR]
  clear hL hB hR hi hz0 hz1 hz2
  go_enter Tryz.func77, Tryz.ntmps77
  go_wp2_with fail
  go_loopw [0, 3] (fun r v wr => ∃ (z : ByteArray) (sg : List (ByteArray × ByteArray)), sg.length ≤ 17 ∧ z.size ≤ 1073741824 ∧ r = .string z ∧ Box (SgRow w wr v sg ∧ sg ++ rdsL (17 - sg.length) z.data.toList = R)) (fun _ v _ => 17 - lenV v)
  case atStart => exact ⟨s, [], by simp, hs, rfl, hA0⟩
  case round =>
    clear hA0
    obtain ⟨z, sg, hn, hz, rfl, hA⟩ := hrel
    obtain ⟨a7, c7, e7⟩ := hA.out.1.row.shape
    obtain ⟨n7, hn7⟩ : ∃ n, sg.length = n := ⟨_, rfl⟩
    rw [hn7] at e7 hn hA
    subst e7
    by_cases he : z = ⟨#[]⟩
    · have hq : (!z.toList.isEmpty) = false := by rw [ne_b]; unfold neB; rw [he]; rfl
      have hq2 : z.toList = [] := by rw [he, ByteArray.toList_eq]
      have hRe : SgRow w wr (.slice a7 n7 c7) R := by
        have h2 := hA.out.2
        rw [he, show (⟨#[]⟩ : ByteArray).data.toList = [] from rfl, rdsL_nil, List.append_nil] at h2
        rw [← h2]; exact hA.out.1
      replace hRe := Box.mk hRe
      clear he hA
      go_wp2_with fail
      go_ret
      exact ⟨_, rfl, hRe.out⟩
    · have hq : (!z.toList.isEmpty) = true := by rw [ne_b]; unfold neB; rw [decide_eq_false he]; rfl
      have hq2 : ¬ z.toList = [] := by
        intro h; rw [h] at hq; cases hq
      have hzl : z.data.toList ≠ [] := fun h => he (ba_ext h)
      by_cases h17 : n7 ≤ 16
      · have hst := rdsL_step (16 - n7) z.data.toList hzl
        rw [show 16 - n7 + 1 = 17 - n7 by omega] at hst
        have h2 := hA.out.2
        rw [hst] at h2
        have n1 := cutL_len z.data.toList nl
        rw [data_len] at n1
        obtain ⟨hLw, hBw⟩ := hLB.out
        have hLr := hLw.here hBw hA.out.1.bel
        obtain ⟨k, hk⟩ := hLr.m
        have hC := Tryz.strings_Cut z ⟨#[10]⟩ k wr (by omega) hk
        rw [show (⟨#[10]⟩ : ByteArray).data.toList = nl from rfl] at hC
        obtain ⟨x, y, b, hc⟩ : ∃ x y b, Lib.cut z.data.toList nl = (x, y, b) := ⟨_, _, _, rfl⟩
        rw [hc] at hC h2 n1
        simp only at hC h2 n1
        have hS := Box.mk (fun w' (h : Below wr.heap.size wr w') => readsig_any (bT x) B w' (hLr.here (Nat.le_trans hBw hA.out.1.bel.size) h) (Nat.le_trans (Nat.le_trans hBw hA.out.1.bel.size) h.size) (by rw [bT_size]; omega))
        rw [show (bT x).data.toList = x from rfl] at hS
        obtain ⟨X, hX⟩ : ∃ X, rdS x = X := ⟨_, rfl⟩
        rw [hX] at hS h2
        obtain ⟨x1, x2⟩ := X
        have hyz : (bT y).size ≤ 1073741824 := by rw [bT_size]; omega
        have h2' : Box ((sg ++ [(x1, x2)]) ++ rdsL (17 - (n7 + 1)) (bT y).data.toList = R) := ⟨by rw [List.append_assoc, show 17 - (n7 + 1) = 16 - n7 by omega]; exact h2⟩
        unfold bT at hS h2' hyz
        simp only at hS
        clear hst h2 n1 hLr hLw hBw hk hc hX hzl he
        go_wp2_with fail
        refine hC.mono ?_
        clear hC
        rintro e w2 ⟨rfl, nq, hw2⟩
        have hb2 : Below wr.heap.size wr w2 := by rw [hw2]; exact Drawn.below ⟨nq, rfl⟩
        have hR2 := Box.mk (hA.out.1.here hb2)
        have hS2 := hS.out w2 hb2
        clear hw2 hb2 hS
        go_wp2_with fail
        refine hS2.mono ?_
        clear hS2
        rintro e w3 ⟨rfl, hb3⟩
        have hR3 := Box.mk (hR2.out.here hb3)
        have hR4 := Box.mk (hR3.out.here (bel_alloc w3 (.cells #[.string x1, .string x2] 78)))
        have hz4 := Box.mk (sig_new w3 (x1, x2))
        have hnB := Box.mk hn7
        clear hb3 hR2 hn7 hA
        go_wp2_with (at_builtin; refine wpList_pushG rfl (.tmp 18) (.tmp 21) rfl _ sg.length (sgC sg) rfl hR4.out.row (some ⟨w3.heap.size, 0, none⟩) 1 1 [(x1, x2)] rfl rfl hz4.out (by rw [hnB.out]; omega) ?_)
        intro v' w5 hp
        have hA5 : Box (SgRow w w5 v' (sg ++ [(x1, x2)]) ∧ (sg ++ [(x1, x2)]) ++ rdsL (17 - (sg ++ [(x1, x2)]).length) (bT y).data.toList = R) := ⟨hR4.out.pushL rfl hp, by
          rw [List.length_append, hnB.out]; exact h2'.out⟩
        obtain ⟨a8, c8, e8⟩ := hA5.out.1.row.shape
        have hl8 : (sg ++ [(x1, x2)]).length = n7 + 1 := by rw [List.length_append, hnB.out]; rfl
        rw [hl8] at e8
        subst e8
        clear hp hR4 hR3 hz4 h2'
        unfold bT at hA5
        go_wp2_with fail
        exact ⟨⟨_, _, by rw [hl8]; omega, hyz, rfl, hA5⟩, by simp only [lenV]; omega⟩
      · have hRe : SgRow w wr (.slice a7 n7 c7) R := by
          have h2 := hA.out.2
          rw [show 17 - n7 = 0 by omega, rdsL, List.append_nil] at h2
          rw [← h2]; exact hA.out.1
        replace hRe := Box.mk hRe
        clear he hA hzl
        go_wp2_with fail
        go_ret
        exact ⟨_, rfl, hRe.out⟩
end Go.Proofs.YthnbhaffphopoaaGreatDoor.Nt
