/- Walks of note.badSig, of slices.IndexFunc and ContainsFunc over signatures, of note.goodText, goodNote. -/
import Derived.Test.YtdjppgmaokcgiaaDoorNtE
namespace Go.Proofs.YtdjppgmaokcgiaaDoor.Nt
open Go Go.RowKit

/-- The place of the first that p takes; the length: there is none. -/
def fst {α : Type} (p : α → Bool) : List α → Nat
  | [] => 0
  | x :: r => if p x = true then 0 else fst p r + 1
theorem fst_le {α : Type} (p : α → Bool) : ∀ l, fst p l ≤ l.length
  | [] => Nat.le_refl _
  | x :: r => by rw [fst]; have := fst_le p r; split <;> simp <;> omega
theorem fst_at {α : Type} [Inhabited α] (p : α → Bool) : ∀ (l : List α) (i : Nat), i ≤ fst p l → ((i < l.length ∧ p (l.getD i default) = false) ↔ i < fst p l)
  | [], i, h => by simp [fst]
  | x :: l, i, h => by
    rw [fst] at h ⊢
    by_cases ha : p x = true
    · rw [if_pos ha] at h ⊢
      obtain rfl : i = 0 := by omega
      simp [ha]
    · rw [if_neg ha] at h ⊢
      cases i with
      | zero => simp [ha]
      | succ i =>
        have := fst_at p l i (by omega)
        simp only [List.length_cons, Nat.succ_lt_succ_iff, List.getD_cons_succ]
        exact this
theorem fst_any {α : Type} (p : α → Bool) : ∀ l : List α, l.any p = decide (fst p l < l.length)
  | [] => rfl
  | x :: l => by
    rw [List.any_cons, fst, fst_any p l]
    by_cases ha : p x = true
    · rw [if_pos ha, ha]; simp
    · rw [if_neg ha, Bool.eq_false_iff.2 ha, Bool.false_or]; simp
theorem atI_fst (id : ByteArray) : ∀ sg : List (ByteArray × ByteArray), atI id sg = fst (fun x => decide (x.1 = id)) sg
  | [] => rfl
  | x :: r => by
    rw [atI, fst, atI_fst id r]
    by_cases h : x.1 = id <;> simp [h]
def idxI {α : Type} (p : α → Bool) (l : List α) : Int := if fst p l < l.length then (fst p l : Int) else -1
set_option maxHeartbeats 1600000 in
set_option maxRecDepth 100000 in
theorem badsig_any (x1 x2 : ByteArray) (w : World) (h2 : x2.size ≤ 140737488355328) :
    Calls Tryd.prog 47 #[.agg #[.string x1, .string x2]] w fun e w' => e = .returned (.bool (!gS (x1, x2))) ∧ Below w.heap.size w w' := by
  have hb := Box.mk (bel_alloc w (.cells #[.string x1, .string x2] 39))
  have hg : gS (x1, x2) = (decide (x1.size = 32) && decide (1 ≤ x2.size) && decide (x2.size ≤ 1024)) := rfl
  by_cases k1 : x1.size = 32
  · have d1 : ((x1.size : Int) != 32) = false := by rw [k1]; rfl
    by_cases k2 : 1 ≤ x2.size
    · by_cases k3 : x2.size ≤ 1024
      · have hv : Box ((!gS (x1, x2)) = false) := ⟨by rw [hg, decide_eq_true k1, decide_eq_true k2, decide_eq_true k3]; rfl⟩
        clear hg k1
        go_enter Tryd.func47, Tryd.ntmps47
        go_wp2_with fail
        go_ret
        exact ⟨ret_b (by rw [hv.out]; simp <;> omega), hb.out⟩
      · have hv : Box ((!gS (x1, x2)) = true) := ⟨by rw [hg, decide_eq_true k1, decide_eq_true k2, decide_eq_false k3]; rfl⟩
        clear hg k1
        go_enter Tryd.func47, Tryd.ntmps47
        go_wp2_with fail
        go_ret
        exact ⟨ret_b (by rw [hv.out]; simp <;> omega), hb.out⟩
    · have hv : Box ((!gS (x1, x2)) = true) := ⟨by rw [hg, decide_eq_true k1, decide_eq_false k2]; rfl⟩
      clear hg k1
      go_enter Tryd.func47, Tryd.ntmps47
      go_wp2_with fail
      go_ret
      exact ⟨ret_b hv.out, hb.out⟩
  · have hv : Box ((!gS (x1, x2)) = true) := ⟨by rw [hg, decide_eq_false k1]; rfl⟩
    have d1 : ((x1.size : Int) != 32) = true := by simpa using (by omega : (x1.size : Int) ≠ 32)
    clear hg k1
    go_enter Tryd.func47, Tryd.ntmps47
    go_wp2_with fail
    go_ret
    exact ⟨ret_b hv.out, hb.out⟩
set_option maxHeartbeats 1600000 in
set_option maxRecDepth 100000 in
/-- Add's closure. -/
theorem same_any (b : Nat) (x1 x2 id z : ByteArray) (w : World) (h : w.cell? ⟨b, 0, none⟩ = some (.string id)) (hz : w.cell? ⟨b, 1, none⟩ = some (.string z)) (hlt : b < w.heap.size) :
    Calls Tryd.prog 38 #[.agg #[.string x1, .string x2], .pointer (some ⟨b, 0, none⟩)] w fun e w' => e = .returned (.bool (decide (x1 = id))) ∧ Below w.heap.size w w' := by
  obtain ⟨W1, hW1⟩ : ∃ W1, w.alloc (.cells #[.string x1, .string x2] 39) = W1 := ⟨_, rfl⟩
  have hB1 : Below w.heap.size w W1 := by rw [← hW1]; exact bel_alloc _ _
  have hS1 : Pk.Blk W1 w.heap.size [.string x1, .string x2] 39 := by rw [← hW1]; exact Pk.Blk.new w _ _
  have c0 := (hB1.cell (p := ⟨b, 0, none⟩) hlt).trans h
  have c1 := (hB1.cell (p := ⟨b, 1, none⟩) hlt).trans hz
  have s0 : W1.cell? ⟨w.heap.size, 0, none⟩ = some (.string x1) := hS1.cell 0
  have heq : (x1.toList == id.toList) = decide (x1 = id) := tl_eq x1 id
  obtain ⟨D, hD⟩ : ∃ D, decide (x1 = id) = D := ⟨_, rfl⟩
  rw [hD] at heq ⊢
  replace hB1 := Box.mk hB1
  clear h hz hlt hS1 hD
  go_enter Tryd.func38, Tryd.ntmps38
  go_wp2_with fail
  go_ret
  exact ⟨rfl, hB1.out⟩
set_option maxHeartbeats 3200000 in
set_option maxRecDepth 100000 in
theorem index_bad0 (P : ByteArray × ByteArray → Bool) (a : Option Addr) (n c : Nat) (sg : List (ByteArray × ByteArray)) (w : World) (hv : SigsAt w (.slice a n c) sg) (hn : sg.length = n) (hm : n ≤ 4611686018427387903)
    (hP : ∀ i, i < sg.length → ∀ W, Below w.heap.size w W → Calls Tryd.prog 47 #[.agg #[.string (sg.getD i default).1, .string (sg.getD i default).2]] W fun e w' => e = .returned (.bool (P (sg.getD i default))) ∧ Below W.heap.size W w') :
    Calls Tryd.prog 37 #[.slice a n c, .func (.func 47) #[] #[]] w fun e w' => e = .returned (.int .i64 (idxI P sg)) ∧ Below w.heap.size w w' := by
  have hle := fst_le P sg
  have hat := fst_at P sg
  have hix : idxI P sg = if fst P sg < sg.length then (fst P sg : Int) else -1 := rfl
  obtain ⟨X, hX⟩ : ∃ X, idxI P sg = X := ⟨_, rfl⟩
  rw [hX] at hix ⊢
  obtain ⟨k, hk⟩ : ∃ k, fst P sg = k := ⟨_, rfl⟩
  rw [hk] at hle hat hix
  rw [hn] at hle hat hix
  have hvB := Box.mk hv
  have hnB := Box.mk hn
  have hatB := Box.mk hat
  have hixB := Box.mk hix
  have hPB := Box.mk hP
  have hB0 : Box (Below w.heap.size w w) := ⟨Below.refl _ _⟩
  clear hv hn hP hX hk hat hix
  go_enter Tryd.func37, Tryd.ntmps37
  go_wp2_with fail
  go_loopw [8] (fun q wr => ∃ i : Nat, i ≤ k ∧ q = .int .i64 (i : Int) ∧ Box (Below w.heap.size w wr)) (fun q _ => n - (intOf q).toNat)
  case atStart => exact ⟨0, by omega, rfl, hB0⟩
  case round =>
    clear hB0
    obtain ⟨i, hi, rfl, hB⟩ := hrel
    by_cases hlt : i < n
    · have hig : i < sg.length := by rw [hnB.out]; exact hlt
      obtain ⟨b1, o1, rfl, k0, k1⟩ := (hvB.out.here hB.out).at i hig
      have hF := hPB.out i hig wr hB.out
      have hka := hatB.out i hi
      obtain ⟨x, hx⟩ : ∃ x, sg.getD i default = x := ⟨_, rfl⟩
      rw [hx] at k0 k1 hF hka
      obtain ⟨x1, x2⟩ := x
      simp only at k0 k1 hF
      obtain ⟨r, hr⟩ : ∃ r, P (x1, x2) = r := ⟨_, rfl⟩
      rw [hr] at hF hka
      have hii : (i : Int) < (n : Int) := by omega
      clear hx hig hr
      cases r with
      | true =>
        have hik : i = k := by
          rcases Nat.lt_or_ge i k with h | h
          · have := (hka.2 h).2; cases this
          · omega
        have hXe : X = (i : Int) := by rw [hixB.out, if_pos (by omega), hik]
        replace hXe := Box.mk hXe
        clear hka hik
        go_wp2_with fail
        refine hF.mono ?_
        clear hF
        rintro e w3 ⟨rfl, hb3⟩
        have hB3 := Box.mk (mono_bel hB.out hb3 (Nat.le_refl _))
        clear hb3 hB
        go_wp2_with fail
        go_ret
        exact ⟨ret_i hXe.out, hB3.out⟩
      | false =>
        have hik : i < k := hka.1 ⟨hlt, rfl⟩
        clear hka
        go_wp2_with fail
        refine hF.mono ?_
        clear hF
        rintro e w3 ⟨rfl, hb3⟩
        have hB3 := Box.mk (mono_bel hB.out hb3 (Nat.le_refl _))
        clear hb3 hB k0 k1
        go_wp2_with fail
        exact ⟨⟨i + 1, by omega, by go_num, hB3⟩, by simp [intOf]; omega⟩
    · have hXe : X = -1 := by rw [hixB.out, if_neg (by omega)]
      obtain rfl : i = n := by omega
      replace hXe := Box.mk hXe
      go_wp2_with fail
      go_ret
      exact ⟨ret_i hXe.out, hB.out⟩
set_option maxHeartbeats 3200000 in
set_option maxRecDepth 100000 in
theorem index_same0 (P : ByteArray × ByteArray → Bool) (a : Option Addr) (n c : Nat) (sg : List (ByteArray × ByteArray)) (b : Nat) (w : World) (hv : SigsAt w (.slice a n c) sg) (hn : sg.length = n) (hm : n ≤ 4611686018427387903)
    (hP : ∀ i, i < sg.length → ∀ W, Below w.heap.size w W → Calls Tryd.prog 38 #[.agg #[.string (sg.getD i default).1, .string (sg.getD i default).2], .pointer (some ⟨b, 0, none⟩)] W fun e w' => e = .returned (.bool (P (sg.getD i default))) ∧ Below W.heap.size W w') :
    Calls Tryd.prog 37 #[.slice a n c, .func (.func 38) #[] #[.pointer (some ⟨b, 0, none⟩)]] w fun e w' => e = .returned (.int .i64 (idxI P sg)) ∧ Below w.heap.size w w' := by
  have hle := fst_le P sg
  have hat := fst_at P sg
  have hix : idxI P sg = if fst P sg < sg.length then (fst P sg : Int) else -1 := rfl
  obtain ⟨X, hX⟩ : ∃ X, idxI P sg = X := ⟨_, rfl⟩
  rw [hX] at hix ⊢
  obtain ⟨k, hk⟩ : ∃ k, fst P sg = k := ⟨_, rfl⟩
  rw [hk] at hle hat hix
  rw [hn] at hle hat hix
  have hvB := Box.mk hv
  have hnB := Box.mk hn
  have hatB := Box.mk hat
  have hixB := Box.mk hix
  have hPB := Box.mk hP
  have hB0 : Box (Below w.heap.size w w) := ⟨Below.refl _ _⟩
  clear hv hn hP hX hk hat hix
  go_enter Tryd.func37, Tryd.ntmps37
  go_wp2_with fail
  go_loopw [8] (fun q wr => ∃ i : Nat, i ≤ k ∧ q = .int .i64 (i : Int) ∧ Box (Below w.heap.size w wr)) (fun q _ => n - (intOf q).toNat)
  case atStart => exact ⟨0, by omega, rfl, hB0⟩
  case round =>
    clear hB0
    obtain ⟨i, hi, rfl, hB⟩ := hrel
    by_cases hlt : i < n
    · have hig : i < sg.length := by rw [hnB.out]; exact hlt
      obtain ⟨b1, o1, rfl, k0, k1⟩ := (hvB.out.here hB.out).at i hig
      have hF := hPB.out i hig wr hB.out
      have hka := hatB.out i hi
      obtain ⟨x, hx⟩ : ∃ x, sg.getD i default = x := ⟨_, rfl⟩
      rw [hx] at k0 k1 hF hka
      obtain ⟨x1, x2⟩ := x
      simp only at k0 k1 hF
      obtain ⟨r, hr⟩ : ∃ r, P (x1, x2) = r := ⟨_, rfl⟩
      rw [hr] at hF hka
      have hii : (i : Int) < (n : Int) := by omega
      clear hx hig hr
      cases r with
      | true =>
        have hik : i = k := by
          rcases Nat.lt_or_ge i k with h | h
          · have := (hka.2 h).2; cases this
          · omega
        have hXe : X = (i : Int) := by rw [hixB.out, if_pos (by omega), hik]
        replace hXe := Box.mk hXe
        clear hka hik
        go_wp2_with fail
        refine hF.mono ?_
        clear hF
        rintro e w3 ⟨rfl, hb3⟩
        have hB3 := Box.mk (mono_bel hB.out hb3 (Nat.le_refl _))
        clear hb3 hB
        go_wp2_with fail
        go_ret
        exact ⟨ret_i hXe.out, hB3.out⟩
      | false =>
        have hik : i < k := hka.1 ⟨hlt, rfl⟩
        clear hka
        go_wp2_with fail
        refine hF.mono ?_
        clear hF
        rintro e w3 ⟨rfl, hb3⟩
        have hB3 := Box.mk (mono_bel hB.out hb3 (Nat.le_refl _))
        clear hb3 hB k0 k1
        go_wp2_with fail
        exact ⟨⟨i + 1, by omega, by go_num, hB3⟩, by simp [intOf]; omega⟩
    · have hXe : X = -1 := by rw [hixB.out, if_neg (by omega)]
      obtain rfl : i = n := by omega
      replace hXe := Box.mk hXe
      go_wp2_with fail
      go_ret
      exact ⟨ret_i hXe.out, hB.out⟩
theorem mem_getD {sg : List (ByteArray × ByteArray)} {i : Nat} (h : i < sg.length) : sg.getD i default ∈ sg := by
  rw [show sg.getD i default = sg[i] by simp [List.getD, h]]
  exact List.getElem_mem h
theorem index_bad (a : Option Addr) (n c : Nat) (sg : List (ByteArray × ByteArray)) (w : World) (hv : SigsAt w (.slice a n c) sg) (hn : sg.length = n) (hm : n ≤ 4611686018427387903) (hz : ∀ x ∈ sg, x.1.size ≤ 140737488355328 ∧ x.2.size ≤ 140737488355328) :
    Calls Tryd.prog 37 #[.slice a n c, .func (.func 47) #[] #[]] w fun e w' => e = .returned (.int .i64 (idxI (fun x => !gS x) sg)) ∧ Below w.heap.size w w' :=
  index_bad0 (fun x => !gS x) a n c sg w hv hn hm fun _ hi W _ => badsig_any _ _ W (hz _ (mem_getD hi)).2
theorem index_same (b : Nat) (id z : ByteArray) (a : Option Addr) (n c : Nat) (sg : List (ByteArray × ByteArray)) (w : World) (hv : SigsAt w (.slice a n c) sg) (hn : sg.length = n) (hm : n ≤ 4611686018427387903) (h0 : w.cell? ⟨b, 0, none⟩ = some (.string id)) (h1 : w.cell? ⟨b, 1, none⟩ = some (.string z)) (hlt : b < w.heap.size) :
    Calls Tryd.prog 37 #[.slice a n c, .func (.func 38) #[] #[.pointer (some ⟨b, 0, none⟩)]] w fun e w' => e = .returned (.int .i64 (idxI (fun x => decide (x.1 = id)) sg)) ∧ Below w.heap.size w w' :=
  index_same0 (fun x => decide (x.1 = id)) a n c sg b w hv hn hm fun _ _ W hW => same_any b _ _ id z W ((hW.cell (p := ⟨b, 0, none⟩) hlt).trans h0) ((hW.cell (p := ⟨b, 1, none⟩) hlt).trans h1) (Nat.lt_of_lt_of_le hlt hW.size)
theorem contains_bad (a : Option Addr) (n c : Nat) (sg : List (ByteArray × ByteArray)) (w : World) (hv : SigsAt w (.slice a n c) sg) (hn : sg.length = n) (hm : n ≤ 4611686018427387903) (hz : ∀ x ∈ sg, x.1.size ≤ 140737488355328 ∧ x.2.size ≤ 140737488355328) :
    Calls Tryd.prog 46 #[.slice a n c, .func (.func 47) #[] #[]] w fun e w' => e = .returned (.bool (!sg.all gS)) ∧ Below w.heap.size w w' := by
  have hF := index_bad a n c sg w hv hn hm hz
  have hr : (!sg.all gS) = decide (0 ≤ idxI (fun x => !gS x) sg) := by
    rw [show (!sg.all gS) = sg.any (fun x => !gS x) by rw [List.not_all_eq_any_not], fst_any]
    unfold idxI
    by_cases h : fst (fun x => !gS x) sg < sg.length
    · rw [if_pos h, decide_eq_true h, decide_eq_true]; omega
    · rw [if_neg h, decide_eq_false h]; rfl
  rw [hr]
  obtain ⟨X, hX⟩ : ∃ X, idxI (fun x => !gS x) sg = X := ⟨_, rfl⟩
  rw [hX] at hF ⊢
  clear hv hn hm hz hr hX
  go_enter Tryd.func46, Tryd.ntmps46
  go_wp2_with fail
  refine hF.mono ?_
  rintro e w2 ⟨rfl, hb2⟩
  replace hb2 := Box.mk hb2
  clear hF
  go_wp2_with fail
  go_ret
  exact ⟨rfl, hb2.out⟩
set_option maxHeartbeats 800000 in
set_option maxRecDepth 100000 in
theorem goodtext_any (t : ByteArray) (B : Nat) (w : World) (hL : NL B w) (hs : t.size ≤ 1073741824) :
    Calls Tryd.prog 45 #[.string t] w fun e w' => e = .returned (.bool (gT t.data.toList)) ∧ w = w' := by
  obtain ⟨k, hk⟩ := hL.m
  have hS := Tryd.strings_HasSuffix t ⟨#[10]⟩ w (by omega)
  have hP := Tryd.strings_HasPrefix t ⟨#[10]⟩ w
  have hC := Tryd.strings_Contains t ⟨#[10, 10]⟩ k w (by omega) hk
  have hg : gT t.data.toList = (Lib.hasSuffix t.data.toList nl && !Lib.hasPrefix t.data.toList nl && !Lib.contains t.data.toList nl2) := rfl
  rw [hg]
  rw [show (⟨#[10]⟩ : ByteArray).data.toList = nl from rfl] at hS hP
  rw [show (⟨#[10, 10]⟩ : ByteArray).data.toList = nl2 from rfl] at hC
  obtain ⟨x, hx⟩ : ∃ x, Lib.hasSuffix t.data.toList nl = x := ⟨_, rfl⟩
  obtain ⟨y, hy⟩ : ∃ x, Lib.hasPrefix t.data.toList nl = x := ⟨_, rfl⟩
  obtain ⟨z, hz⟩ : ∃ x, Lib.contains t.data.toList nl2 = x := ⟨_, rfl⟩
  rw [hx] at hS
  rw [hy] at hP
  rw [hz] at hC
  rw [hx, hy, hz]
  clear hg hx hy hz hk hL hs
  cases x with
  | false =>
    clear hP hC
    go_enter Tryd.func45, Tryd.ntmps45
    go_wp2_with fail
    refine hS.mono ?_
    clear hS
    rintro e w1 ⟨rfl, hw⟩
    obtain rfl : w = w1 := hw.symm
    go_wp2_with fail
    go_ret
    exact ⟨rfl, rfl⟩
  | true =>
    cases y with
    | true =>
      clear hC
      go_enter Tryd.func45, Tryd.ntmps45
      go_wp2_with fail
      refine hS.mono ?_
      clear hS
      rintro e w1 ⟨rfl, hw⟩
      obtain rfl : w = w1 := hw.symm
      go_wp2_with fail
      refine hP.mono ?_
      clear hP
      rintro e w1 ⟨rfl, hw⟩
      obtain rfl : w = w1 := hw.symm
      go_wp2_with fail
      go_ret
      exact ⟨rfl, rfl⟩
    | false =>
      go_enter Tryd.func45, Tryd.ntmps45
      go_wp2_with fail
      refine hS.mono ?_
      clear hS
      rintro e w1 ⟨rfl, hw⟩
      obtain rfl : w = w1 := hw.symm
      go_wp2_with fail
      refine hP.mono ?_
      clear hP
      rintro e w1 ⟨rfl, hw⟩
      obtain rfl : w = w1 := hw.symm
      go_wp2_with fail
      refine hC.mono ?_
      clear hC
      rintro e w1 ⟨rfl, hw⟩
      obtain rfl : w = w1 := hw.symm
      go_wp2_with fail
      go_ret
      exact ⟨by simp, rfl⟩
/-- Sizes of signatures. -/
def ZS (sg : List (ByteArray × ByteArray)) : Prop := ∀ x ∈ sg, x.1.size ≤ 1073741824 ∧ x.2.size ≤ 1073741824
set_option maxHeartbeats 1600000 in
set_option maxRecDepth 100000 in
theorem goodnote_any (t : ByteArray) (a : Option Addr) (n c : Nat) (sg : List (ByteArray × ByteArray)) (B : Nat) (w : World) (hL : NL B w) (hB : B ≤ w.heap.size) (hs : t.size ≤ 1073741824) (hv : SigsAt w (.slice a n c) sg) (hn : sg.length = n) (hm : n ≤ 1073741824) (hz : ZS sg) :
    Calls Tryd.prog 30 #[.agg #[.string t, .slice a n c]] w fun e w' => e = .returned (.bool (gN (t, sg))) ∧ Below w.heap.size w w' := by
  obtain ⟨W1, hW1⟩ : ∃ W1, w.alloc (.cells #[.string t, .slice a n c] 33) = W1 := ⟨_, rfl⟩
  have hB1 : Below w.heap.size w W1 := by rw [← hW1]; exact bel_alloc _ _
  have hS1 : Pk.Blk W1 w.heap.size [.string t, .slice a n c] 33 := by rw [← hW1]; exact Pk.Blk.new w _ _
  have s0 : W1.cell? ⟨w.heap.size, 0, none⟩ = some (.string t) := hS1.cell 0
  have s1 : W1.cell? ⟨w.heap.size, 1, none⟩ = some (.slice a n c) := hS1.cell 1
  have hT := goodtext_any t B W1 (hL.here hB hB1) hs
  have hC := contains_bad a n c sg W1 (hv.here hB1) hn (by omega) (fun x hx => ⟨by have := (hz x hx).1; omega, by have := (hz x hx).2; omega⟩)
  have hg : gN (t, sg) = (gT t.data.toList && decide (sg.length ≤ 16) && sg.all gS) := rfl
  rw [hg]
  obtain ⟨x, hx⟩ : ∃ x, gT t.data.toList = x := ⟨_, rfl⟩
  obtain ⟨y, hy⟩ : ∃ x, sg.all gS = x := ⟨_, rfl⟩
  rw [hx] at hT ⊢
  rw [hy] at hC ⊢
  rw [hn]
  replace hB1 := Box.mk hB1
  clear hg hx hy hL hB hs hv hn hz hS1
  cases x with
  | false =>
    clear hC
    go_enter Tryd.func30, Tryd.ntmps30
    go_wp2_with fail
    refine hT.mono ?_
    clear hT
    rintro e w1 ⟨rfl, rfl⟩
    go_wp2_with fail
    go_ret
    exact ⟨by simp, hB1.out⟩
  | true =>
    by_cases h16 : n ≤ 16
    · rw [decide_eq_true h16]
      go_enter Tryd.func30, Tryd.ntmps30
      go_wp2_with fail
      refine hT.mono ?_
      clear hT
      rintro e w1 ⟨rfl, rfl⟩
      go_wp2_with fail
      refine hC.mono ?_
      clear hC
      rintro e w2 ⟨rfl, hb2⟩
      have hB2 := Box.mk (mono_bel hB1.out hb2 (Nat.le_refl _))
      clear hb2 hB1
      go_wp2_with fail
      go_ret
      exact ⟨by simp, hB2.out⟩
    · rw [decide_eq_false h16]
      clear hC
      go_enter Tryd.func30, Tryd.ntmps30
      go_wp2_with fail
      refine hT.mono ?_
      clear hT
      rintro e w1 ⟨rfl, rfl⟩
      go_wp2_with fail
      go_ret
      exact ⟨by simp, hB1.out⟩
end Go.Proofs.YtdjppgmaokcgiaaDoor.Nt
