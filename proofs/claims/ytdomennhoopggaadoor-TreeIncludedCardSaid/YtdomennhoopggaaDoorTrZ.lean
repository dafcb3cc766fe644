/- Walk of the law TreeIncluded. -/
import Derived.Test.YtdomennhoopggaaDoorTrY
import Derived.Test.YtdomennhoopggaaDoorQz
namespace Go.Proofs.YtdomennhoopggaaDoor
open Go Go.RowKit

/-- In the round: a proof's row, in worlds that only have more than the round's first. -/
def PB (wr : World) (a : Option Addr) (p c : Nat) (C : List ByteArray) (w : World) : Prop := Below wr.heap.size wr w ∧ TxR wr.heap.size w (.slice a p c) C
theorem PB.here {wr w w' : World} {a : Option Addr} {p c : Nat} {C : List ByteArray} (h : PB wr a p c C w) (hb : Below w.heap.size w w') : PB wr a p c C w' := ⟨mono_bel h.1 hb (Nat.le_refl _), h.2.here hb⟩
theorem PB.st (wr : World) (a : Option Addr) (p c : Nat) (C : List ByteArray) : St (PB wr a p c C) (fun w w' => Below w.heap.size w w') (PB wr a p c C) := ⟨fun _ h => h, fun _ _ h hb => h.here hb⟩
theorem PartsAt.here {w w' : World} {v : Value} {ps : List ByteArray} (h : PartsAt w v ps) (hb : Below w.heap.size w w') : PartsAt w' v ps := by
  obtain ⟨a, c, rfl, hh⟩ := h.ex
  refine ⟨a, c, rfl, fun h0 => ?_⟩
  obtain ⟨blk, off, rfl, hl, hc⟩ := hh h0
  exact ⟨blk, off, rfl, Nat.lt_of_lt_of_le hl hb.size, fun i hi => by rw [hb.cell (p := ⟨blk, off + i, none⟩) hl]; exact hc i hi⟩
/-- .. and a text laid ahead. -/
def P1 (wr : World) (a : Option Addr) (p c : Nat) (C : List ByteArray) (nb : Nat) (R : ByteArray) (w : World) : Prop := PB wr a p c C w ∧ PartsAt w (.slice (some ⟨nb, 0, none⟩) 1 1) [R]
theorem P1.st (wr : World) (a : Option Addr) (p c : Nat) (C : List ByteArray) (nb : Nat) (R : ByteArray) : St (PB wr a p c C) (fun w w' => Below w.heap.size w w') (P1 wr a p c C nb R) := ⟨fun _ h => h.1, fun _ _ h hb => ⟨h.1.here hb, h.2.here hb⟩⟩
/-- .. and the longer row. -/
def P2 (wr : World) (a : Option Addr) (p c : Nat) (C : List ByteArray) (a7 : Option Addr) (c7 : Nat) (R : ByteArray) (w : World) : Prop := PB wr a p c C w ∧ PA w a7 (p + 1) c7 (C ++ [R])
theorem P2.st (wr : World) (a : Option Addr) (p c : Nat) (C : List ByteArray) (a7 : Option Addr) (c7 : Nat) (R : ByteArray) : St (PB wr a p c C) (fun w w' => Below w.heap.size w w') (P2 wr a p c C a7 c7 R) := ⟨fun _ h => h.1, fun _ _ h hb => ⟨h.1.here hb, h.2.here hb⟩⟩
/-- One that its guard leaves out goes first. -/
theorem anyS_skip {P : Program} {ops : Array Oper} {md : Region.Mode} {B : World → Prop} {R : World → World → Prop} {Q : Act → World → Prop} {C : World → Prop} {fuel : Nat} {listed : Array Bool} {a : Act} {o : Oper} (k : Nat) (hR : ∀ w, R w w) (hS : St B R C) (hsel : Region.noSelect ops = true) (h0 : ops[k]? = some o)
    (hr : (Region.ready md ops listed).contains k = true) (hf : Region.free md ops listed k = true) (hw : Region.wanted o (yielded ops a.tmps) = false)
    (h : anyS P md ops B R Q fuel (listed.setIfInBounds k true) (a.put o.dst undef) C) : anyS P md ops B R Q (fuel + 1) listed a C :=
  anyS_first hR h0 (Region.noSelect_spec hsel) fuel listed a C hS (Region.free_spec h0 hf) (by simpa using hr) (.inr ⟨hw, rfl⟩) h
set_option maxHeartbeats 6400000 in
set_option maxRecDepth 100000 in
theorem law_included (k : Nat) (s : ByteArray) (w : World) (hK : KIs w) (hk : k ≤ 255) (hs : s.size ≤ 140737488353000) :
    Calls Tryd.prog 6 #[.int .u8 (k : Int), .string s] w fun e w' => e = .returned (.bool true) ∧ Below w.heap.size w w' := by
  have hH := hashes_any w hK
  have hmod : (k : Int).tmod 40 = ((k % 40 : Nat) : Int) := by rw [Int.tmod_eq_emod_of_nonneg (by omega)]; omega
  obtain ⟨n, hn⟩ : ∃ n, 1 + k % 40 = n := ⟨_, rfl⟩
  have hn40 : n ≤ 40 := by omega
  have hadd : 1 + (k : Int).tmod 40 = (n : Int) := by rw [hmod]; omega
  have hmn : (k : Int).tmod 40 = ((k % 40 : Nat) : Int) := hmod
  obtain ⟨q, hq⟩ : ∃ q, k % 40 = q := ⟨_, rfl⟩
  rw [hq] at hmod
  have hqn : 1 + (q : Int) = (n : Int) := by omega
  have hLv := fun w' => leaves_any n s w' (by omega) hs
  replace hK := Box.mk hK
  clear hn hq hadd hmn
  go_enter Tryd.func6, Tryd.ntmps6
  go_wp2_with fail
  refine hH.mono ?_
  rintro e w1 ⟨rfl, hb1⟩
  clear hH
  replace hLv := hLv w1
  replace hb1 := Box.mk hb1
  go_wp2_with fail
  refine hLv.mono ?_
  rintro e w2 ⟨v2, l, rfl, hl, hsz, hT2, hb2⟩
  clear hLv
  have hF := Box.mk (fit32 hsz)
  obtain ⟨a, c, rfl⟩ := hT2.shape
  have hP := Box.mk (hT2.pa rfl)
  replace hb2 := Box.mk (mono_bel hb1.out hb2 (Nat.le_refl _))
  clear hT2 hsz hb1
  rw [hl] at hP ⊢
  have h1 := root_any n l a c w2 hP.out (hK.out.below hb2.out hK.out.lt) hF.out
  have hrs := Box.mk (root_size l hF.out)
  have hown := fun m (hm : m < n) => inc_own l m n hl hm
  have hlen := fun z : Int => incL_63 (l := l) z (by omega)
  have hfit := fun z : Int => fit_inc hF.out z
  obtain ⟨R, hR⟩ : ∃ R, rootL l = R := ⟨_, rfl⟩
  rw [hR] at h1 hrs hown
  go_wp2_with fail
  refine h1.mono ?_
  rintro e w3 ⟨rfl, hb3⟩
  clear h1
  replace hP := Box.mk (hP.out.here hb3)
  replace hb2 := Box.mk (mono_bel hb2.out hb3 (Nat.le_refl _))
  replace hown := Box.mk hown
  replace hlen := Box.mk hlen
  replace hfit := Box.mk hfit
  replace hl := Box.mk hl
  clear hb3 hR hqn hmod
  have hcap := hP.out.cap
  have htop := hP.out.top
  go_wp2_with fail
  go_loopw [7, 8, 9, 22] (fun _ _ _ v22 wr => ∃ i : Nat, i ≤ n ∧ v22 = .int .i64 (i : Int) ∧ Box (PA wr a n c l) ∧ Box (Below w.heap.size w wr)) (fun _ _ _ v22 _ => n - (intOf v22).toNat)
  case atStart => exact ⟨0, by omega, rfl, hP, hb2⟩
  case round =>
    clear hP hb2
    obtain ⟨i, hi, rfl, hP, hb2⟩ := hrel
    by_cases hlt : i < n
    · have hmn : (i : Int) < (n : Int) := by omega
      obtain ⟨o1, o2, o3, o4⟩ := hown.out i hlt
      have h1 := inclusion_any n l i a c wr hP.out (hK.out.below hb2.out hK.out.lt) hF.out
      have hcl := hlen.out (i : Int)
      have hcf := hfit.out (i : Int)
      have hxs := hF.out.getD i
      obtain ⟨blk, off, rfl, hblk, hcell⟩ := hP.out.cell i hlt
      obtain ⟨x, hxe⟩ : ∃ x, l.getD i ByteArray.empty = x := ⟨_, rfl⟩
      obtain ⟨C, hC⟩ : ∃ C, incL l i = C := ⟨_, rfl⟩
      rw [hC, o1] at h1
      rw [hC] at o2 o3 o4 hcl hcf
      rw [hxe] at o2 o3 o4 hxs hcell
      clear o1 hC hxe
      have hx : Box (∀ w', Below wr.heap.size wr w' → w'.cell? ⟨blk, off + i, none⟩ = some (.string x)) := ⟨fun w' hb => (hb.cell (p := ⟨blk, off + i, none⟩) hblk).trans hcell⟩
      have hKw := Box.mk fun w' (hb : Below wr.heap.size wr w') => hK.out.below (mono_bel hb2.out hb (Nat.le_refl _)) hK.out.lt
      clear hcell hblk
      unfold RowsE at h1
      go_wp2_with fail
      refine h1.mono ?_
      rintro e w4 ⟨v4, rfl, hT4, hb4⟩
      clear h1
      obtain ⟨a4, c4, rfl⟩ := hT4.shape
      obtain ⟨p, hp⟩ : ∃ p, C.length = p := ⟨_, rfl⟩
      rw [hp] at hT4 hcl ⊢
      have hi1 := Box.mk fun w' (hw : PB wr a4 p c4 C w') => included_any x R i n C p a4 c4 w' (hw.2.pa hp) (hKw.out w' hw.1) hcf hxs (by omega)
      have hi2 := Box.mk fun w' a7 c7 (hw : PB wr a4 p c4 C w') (hP : PA w' a7 (p + 1) c7 (C ++ [R])) => included_any x R i n (C ++ [R]) (p + 1) a7 c7 w' hP (hKw.out w' hw.1) (hcf.snoc hrs.out) hxs (by omega)
      have hi3 := Box.mk fun w' (hw : PB wr a4 p c4 C w') => included_any x R i n (C.take (p - 1)) (p - 1) a4 c4 w' ((hw.2.pa hp).take (by omega)) (hKw.out w' hw.1) (hcf.take _) hxs (by omega)
      have hPB := Box.mk (show PB wr a4 p c4 C w4 from ⟨hb4, hT4⟩)
      have hpc := (hT4.pa hp).cap
      have hpt := (hT4.pa hp).top
      rw [hp] at o4
      rw [o2] at hi1
      rw [o3 R] at hi2
      replace hp := Box.mk hp
      clear hT4 hb4 o2 o3 hcf hKw hxs
      rcases Nat.eq_zero_or_pos p with h0 | h0
      · subst h0
        clear o4 hi3
        have hi3 : True := trivial
        go_wp2_with fail
        refine region_steady (PB wr a4 0 c4 C) (fun w w' => Below w.heap.size w w') rfl (hPB.out.here (dB _)) ?_
        refine anyS_calms [0, 1, 2, 3, 4, 5, 6, 7, 8, 9, 10, 11] 41 rfl (fun _ => Below.refl _ _) (PB.st _ _ _ _ _) (by kernel_rfl) (by kernel_rfl) (by kernel_rfl) ?_
        simp [nth]
        try simp only [Act.put, List.setIfInBounds_toArray, List.set_cons_succ, List.set_cons_zero]
        repeat (go_big_quiet_step (first | exact fun _ => rfl | rfl))
        refine quiet_val rfl (.string x) (fun w' hw' => by have h3 := hx.out w' hw'.1; go_simp) ?_
        simp only [Act.put, List.setIfInBounds_toArray, List.set_cons_succ, List.set_cons_zero]
        repeat (go_big_quiet_step (first | exact fun _ => rfl | rfl))
        refine wpQuiet_nil ?_
        refine anyS_call 12 (.int .i64 0) (fun _ => Below.refl _ _) (PB.st _ _ _ _ _) (by kernel_rfl) rfl (by kernel_rfl) (by kernel_rfl) rfl (fun w' hw' => hi1.out w' hw') (fun w' _ => by go_simp) ?_
        simp only [Act.put, List.setIfInBounds_toArray]
        refine anyS_calms [13, 14, 15, 16, 17, 18, 19, 20, 21, 22, 23, 24, 27] 27 rfl (fun _ => Below.refl _ _) (PB.st _ _ _ _ _) (by kernel_rfl) (by kernel_rfl) (by kernel_rfl) ?_
        simp [nth]
        try simp only [Act.put, List.setIfInBounds_toArray, List.set_cons_succ, List.set_cons_zero]
        repeat (go_big_quiet_step (first | exact fun _ => rfl | rfl))
        refine quiet_val rfl (.string x) (fun w' hw' => by have h3 := hx.out w' hw'.1; go_simp) ?_
        simp only [Act.put, List.setIfInBounds_toArray, List.set_cons_succ, List.set_cons_zero]
        repeat (go_big_quiet_step (first | exact fun _ => rfl | rfl))
        refine wpQuiet_nil ?_
        refine anyS_forced 25 (by kernel_rfl) rfl rfl (fun wa hWa K hK => ?_)
        obtain ⟨wb, hwb⟩ : ∃ wb, wa.alloc (.cells #[.string R] 9) = wb := ⟨_, rfl⟩
        have hbb : Below wa.heap.size wa wb := by rw [← hwb]; exact bel_alloc _ _
        have hnw : PartsAt wb (.slice (some ⟨wa.heap.size, 0, none⟩) 1 1) [R] := by rw [← hwb]; exact parts_new wa [R] 9
        obtain ⟨nb, hnb⟩ : ∃ b, wa.heap.size = b := ⟨_, rfl⟩
        rw [hnb] at hnw
        go_simp
        refine hK _ _ (P1 wr a4 0 c4 C nb R) (P1.st _ _ _ _ _ _ _) ⟨hWa.here hbb, hnw⟩ ?_
        clear hK K hwb hbb hnw hnb hWa wa wb
        try simp only [Act.put, List.setIfInBounds_toArray, List.set_cons_succ, List.set_cons_zero]
        refine anyS_forced 26 (by kernel_rfl) rfl rfl (fun wa hWa K hK => ?_)
        refine wp_pushK (.tmp 54) (.tmp 56) rfl wr.heap.size _ C R rfl hWa.1.2 hWa.1.1.size nb 0 1 rfl hWa.2 (by rw [hp.out]; omega) ?_
        intro v7 w7 hp7 hT7
        have hP7 := hp7.row
        obtain ⟨a7, c7, e7⟩ := hP7.shape
        have hl7 : (C ++ [R]).length = 0 + 1 := by rw [List.length_append, hp.out]; rfl
        rw [hl7] at e7
        subst e7
        refine hK _ _ (P2 wr a4 0 c4 C a7 c7 R) (P2.st _ _ _ _ _ _ _ _) ⟨⟨hp7.bel hWa.1.1 hWa.1.2, hT7⟩, hP7.pa hl7⟩ ?_
        clear hK K hp7 hT7 hP7 hl7 hWa wa w7
        try simp only [Act.put, List.setIfInBounds_toArray]
        refine anyS_forced 28 (by kernel_rfl) rfl rfl (fun wa hWa K hK => ?_)
        go_simp
        refine (hi2.out wa a7 c7 hWa.1 hWa.2).mono ?_
        rintro e wb ⟨rfl, hbb⟩
        refine hK _ _ (PB wr a4 0 c4 C) (PB.st _ _ _ _ _) (hWa.1.here hbb) ?_
        clear hK K hbb hWa wa wb
        try simp only [Act.put, List.setIfInBounds_toArray, List.set_cons_succ, List.set_cons_zero]
        refine anyS_calms [29, 30, 31, 32, 33, 34, 35, 36, 37, 38, 39, 40, 41, 42, 43, 44, 45, 46, 47, 48] 4 rfl (fun _ => Below.refl _ _) (PB.st _ _ _ _ _) (by kernel_rfl) (by kernel_rfl) (by kernel_rfl) ?_
        simp [nth]
        try simp only [Act.put, List.setIfInBounds_toArray, List.set_cons_succ, List.set_cons_zero]
        repeat (go_big_quiet_step (first | exact fun _ => rfl | rfl))
        refine wpQuiet_nil ?_
        refine anyS_skip 49 (fun _ => Below.refl _ _) (PB.st _ _ _ _ _) (by kernel_rfl) rfl (by kernel_rfl) (by kernel_rfl) rfl ?_
        simp only [Act.put, List.setIfInBounds_toArray]
        refine anyS_calms [50, 51, 52] 0 rfl (fun _ => Below.refl _ _) (PB.st _ _ _ _ _) (by kernel_rfl) (by kernel_rfl) (by kernel_rfl) ?_
        simp [nth]
        try simp only [Act.put, List.setIfInBounds_toArray, List.set_cons_succ, List.set_cons_zero]
        repeat (go_big_quiet_step (first | exact fun _ => rfl | rfl))
        refine wpQuiet_nil ?_
        refine anyS_done (by kernel_rfl) (fun w9 hC9 => ?_)
        have hP9 : Box (PA w9 (some ⟨blk, off, none⟩) n c l) := ⟨hP.out.here hC9.1⟩
        have hb9 : Box (Below w.heap.size w w9) := ⟨mono_bel hb2.out hC9.1 (Nat.le_refl _)⟩
        clear hPB hx hi1 hi2 hi3 hP hb2 hC9
        go_wp2_with fail
        exact ⟨⟨i + 1, by omega, by go_num, hP9, hb9⟩, by simp [intOf]; omega⟩
      · have hgt : (p : Int) > 0 := by omega
        have hgt2 : ((p : Int) > 0) = True := by simp; omega
        rw [o4 h0] at hi3
        clear o4
        go_wp2_with fail
        refine region_steady (PB wr a4 p c4 C) (fun w w' => Below w.heap.size w w') rfl (hPB.out.here (dB _)) ?_
        refine anyS_calms [0, 1, 2, 3, 4, 5, 6, 7, 8, 9, 10, 11] 41 rfl (fun _ => Below.refl _ _) (PB.st _ _ _ _ _) (by kernel_rfl) (by kernel_rfl) (by kernel_rfl) ?_
        simp [nth]
        try simp only [Act.put, List.setIfInBounds_toArray, List.set_cons_succ, List.set_cons_zero]
        repeat (go_big_quiet_step (first | exact fun _ => rfl | rfl))
        refine quiet_val rfl (.string x) (fun w' hw' => by have h3 := hx.out w' hw'.1; go_simp) ?_
        simp only [Act.put, List.setIfInBounds_toArray, List.set_cons_succ, List.set_cons_zero]
        repeat (go_big_quiet_step (first | exact fun _ => rfl | rfl))
        refine wpQuiet_nil ?_
        refine anyS_call 12 (.int .i64 0) (fun _ => Below.refl _ _) (PB.st _ _ _ _ _) (by kernel_rfl) rfl (by kernel_rfl) (by kernel_rfl) rfl (fun w' hw' => hi1.out w' hw') (fun w' _ => by go_simp) ?_
        simp only [Act.put, List.setIfInBounds_toArray]
        refine anyS_calms [13, 14, 15, 16, 17, 18, 19, 20, 21, 22, 23, 24, 27] 27 rfl (fun _ => Below.refl _ _) (PB.st _ _ _ _ _) (by kernel_rfl) (by kernel_rfl) (by kernel_rfl) ?_
        simp [nth]
        try simp only [Act.put, List.setIfInBounds_toArray, List.set_cons_succ, List.set_cons_zero]
        repeat (go_big_quiet_step (first | exact fun _ => rfl | rfl))
        refine quiet_val rfl (.string x) (fun w' hw' => by have h3 := hx.out w' hw'.1; go_simp) ?_
        simp only [Act.put, List.setIfInBounds_toArray, List.set_cons_succ, List.set_cons_zero]
        repeat (go_big_quiet_step (first | exact fun _ => rfl | rfl))
        refine wpQuiet_nil ?_
        refine anyS_forced 25 (by kernel_rfl) rfl rfl (fun wa hWa K hK => ?_)
        obtain ⟨wb, hwb⟩ : ∃ wb, wa.alloc (.cells #[.string R] 9) = wb := ⟨_, rfl⟩
        have hbb : Below wa.heap.size wa wb := by rw [← hwb]; exact bel_alloc _ _
        have hnw : PartsAt wb (.slice (some ⟨wa.heap.size, 0, none⟩) 1 1) [R] := by rw [← hwb]; exact parts_new wa [R] 9
        obtain ⟨nb, hnb⟩ : ∃ b, wa.heap.size = b := ⟨_, rfl⟩
        rw [hnb] at hnw
        go_simp
        refine hK _ _ (P1 wr a4 p c4 C nb R) (P1.st _ _ _ _ _ _ _) ⟨hWa.here hbb, hnw⟩ ?_
        clear hK K hwb hbb hnw hnb hWa wa wb
        try simp only [Act.put, List.setIfInBounds_toArray, List.set_cons_succ, List.set_cons_zero]
        refine anyS_forced 26 (by kernel_rfl) rfl rfl (fun wa hWa K hK => ?_)
        refine wp_pushK (.tmp 54) (.tmp 56) rfl wr.heap.size _ C R rfl hWa.1.2 hWa.1.1.size nb 0 1 rfl hWa.2 (by rw [hp.out]; omega) ?_
        intro v7 w7 hp7 hT7
        have hP7 := hp7.row
        obtain ⟨a7, c7, e7⟩ := hP7.shape
        have hl7 : (C ++ [R]).length = p + 1 := by rw [List.length_append, hp.out]; rfl
        rw [hl7] at e7
        subst e7
        refine hK _ _ (P2 wr a4 p c4 C a7 c7 R) (P2.st _ _ _ _ _ _ _ _) ⟨⟨hp7.bel hWa.1.1 hWa.1.2, hT7⟩, hP7.pa hl7⟩ ?_
        clear hK K hp7 hT7 hP7 hl7 hWa wa w7
        try simp only [Act.put, List.setIfInBounds_toArray]
        refine anyS_forced 28 (by kernel_rfl) rfl rfl (fun wa hWa K hK => ?_)
        go_simp
        refine (hi2.out wa a7 c7 hWa.1 hWa.2).mono ?_
        rintro e wb ⟨rfl, hbb⟩
        refine hK _ _ (PB wr a4 p c4 C) (PB.st _ _ _ _ _) (hWa.1.here hbb) ?_
        clear hK K hbb hWa wa wb
        try simp only [Act.put, List.setIfInBounds_toArray, List.set_cons_succ, List.set_cons_zero]
        refine anyS_calms [29, 30, 31, 32, 33, 34, 35, 36, 37, 38, 39, 40, 41, 42, 43, 44, 45, 46, 47, 48] 4 rfl (fun _ => Below.refl _ _) (PB.st _ _ _ _ _) (by kernel_rfl) (by kernel_rfl) (by kernel_rfl) ?_
        simp [nth]
        try simp only [Act.put, List.setIfInBounds_toArray, List.set_cons_succ, List.set_cons_zero]
        repeat (go_big_quiet_step (first | exact fun _ => rfl | rfl))
        refine quiet_val rfl (.string x) (fun w' hw' => by have h3 := hx.out w' hw'.1; go_simp) ?_
        simp only [Act.put, List.setIfInBounds_toArray, List.set_cons_succ, List.set_cons_zero]
        repeat (go_big_quiet_step (first | exact fun _ => rfl | rfl))
        refine wpQuiet_nil ?_
        refine anyS_call 49 (.int .i64 11) (fun _ => Below.refl _ _) (PB.st _ _ _ _ _) (by kernel_rfl) rfl (by kernel_rfl) (by kernel_rfl) rfl (fun w' hw' => hi3.out w' hw') (fun w' _ => by go_simp) ?_
        simp only [Act.put, List.setIfInBounds_toArray]
        refine anyS_calms [50, 51, 52] 0 rfl (fun _ => Below.refl _ _) (PB.st _ _ _ _ _) (by kernel_rfl) (by kernel_rfl) (by kernel_rfl) ?_
        simp [nth]
        try simp only [Act.put, List.setIfInBounds_toArray, List.set_cons_succ, List.set_cons_zero]
        repeat (go_big_quiet_step (first | exact fun _ => rfl | rfl))
        refine wpQuiet_nil ?_
        refine anyS_done (by kernel_rfl) (fun w9 hC9 => ?_)
        have hP9 : Box (PA w9 (some ⟨blk, off, none⟩) n c l) := ⟨hP.out.here hC9.1⟩
        have hb9 : Box (Below w.heap.size w w9) := ⟨mono_bel hb2.out hC9.1 (Nat.le_refl _)⟩
        clear hPB hx hi1 hi2 hi3 hP hb2 hC9
        go_wp2_with fail
        exact ⟨⟨i + 1, by omega, by go_num, hP9, hb9⟩, by simp [intOf]; omega⟩
    · have hmn : ¬ (i : Int) < (n : Int) := by omega
      go_wp2_with fail
      go_ret
      exact ⟨rfl, hb2.out⟩
end Go.Proofs.YtdomennhoopggaaDoor
