/- Bills: a model; walks of the program's small functions, of Check and of the document's. | Bills: walks of the document's size, Check, Count, Cut and of the program's Count, Cut. | Bills: cut of the program; Cut, Fits, Whole of both. | Bills: Fits, Whole of both. -/
import Derived.Test.YtdnhpldcnmbncaaDoorTrC
import Derived.Test.YtdnhpldcnmbncaaDoorQz
import Derived.Test.YtdnhpldcnmbncaaDoorHas
namespace Go.Proofs.YtdnhpldcnmbncaaDoor.Bi
open Go Go.RowKit Go.Proofs.YtdnhpldcnmbncaaDoor
set_option linter.all false

theorem eqT (a b : ByteArray) : (a.toList == b.toList) = decide (a = b) := by
  rw [ByteArray.toList_eq, ByteArray.toList_eq, Bool.eq_iff_iff]
  simp only [beq_iff_eq, decide_eq_true_eq]
  exact ⟨fun h => ByteArray.ext (Array.ext' h), fun h => by rw [h]⟩
def szB (c : Int) : Bool := c == 64 || (c == 128 || (c == 256 || (c == 512 || c == 1024)))
def numB (v s c : Int) : Bool := decide (1 ≤ v ∧ v ≤ 255) && (decide (1 ≤ s ∧ s ≤ 8192) && szB c)
def cntI (s c : Int) : Int := (s + c - 1) / c
def lstB (s c : Int) (t : ByteArray) (l : List ByteArray) : Bool := l.isEmpty || (decide ((l.length : Int) = cntI s c) && (l.all (fun x => decide (x.size = 32)) && decide (rootL l = t)))
def chkB (v s c : Int) (h t : ByteArray) (l : List ByteArray) : Bool := numB v s c && (decide (h.size = 32) && (decide (t.size = 32) && lstB s c t l))
def chkI (v s c : Int) (h t : ByteArray) (l : List ByteArray) : Int := if chkB v s c h t l then 0 else 1
theorem sz_cases {c : Int} (h : szB c = true) : c = 64 ∨ c = 128 ∨ c = 256 ∨ c = 512 ∨ c = 1024 := by
  simpa [szB] using h
theorem num_sz {v s c : Int} (h : numB v s c = true) : 1 ≤ v ∧ v ≤ 255 ∧ 1 ≤ s ∧ s ≤ 8192 ∧ szB c = true := by
  simp only [numB, Bool.and_eq_true, decide_eq_true_eq] at h
  exact ⟨h.1.1, h.1.2, h.2.1.1, h.2.1.2, h.2.2⟩
/-- How many chunks, of good numbers. -/
theorem cnt_nat {v s c : Int} (h : numB v s c = true) : ∃ n : Nat, cntI s c = (n : Int) ∧ 1 ≤ n ∧ n ≤ 128 ∧ ((n : Int) - 1) * c < s ∧ s ≤ (n : Int) * c := by
  obtain ⟨_, _, h1, h2, h3⟩ := num_sz h
  refine ⟨(cntI s c).toNat, ?_⟩
  unfold cntI
  rcases sz_cases h3 with rfl | rfl | rfl | rfl | rfl <;> omega

set_option maxHeartbeats 800000 in
set_option maxRecDepth 100000 in
theorem within_any (n m : Int) (w : World) :
    Calls Tryd.prog 55 #[.int .i64 n, .int .i64 m] w fun e w' => e = .returned (.bool (decide (1 ≤ n ∧ n ≤ m))) ∧ w' = w := by
  go_enter Tryd.func55, Tryd.ntmps55
  by_cases h1 : 1 ≤ n
  · have h3 : n ≥ 1 := h1
    go_wp2_with fail
    go_ret
    refine ⟨?_, rfl⟩
    by_cases h2 : n ≤ m <;> simp [h1, h2]
  · have h3 : ¬ n ≥ 1 := h1
    go_wp2_with fail
    go_ret
    refine ⟨?_, rfl⟩
    rw [decide_eq_false (fun h => by omega)]
    rfl
set_option maxHeartbeats 800000 in
set_option maxRecDepth 100000 in
theorem goodchunk_any (c : Int) (w : World) :
    Calls Tryd.prog 56 #[.int .i64 c] w fun e w' => e = .returned (.bool (szB c)) ∧ w' = w := by
  obtain ⟨z, hz⟩ : ∃ z, szB c = z := ⟨_, rfl⟩
  have hz2 := Box.mk hz
  rw [hz]
  clear hz
  unfold szB at hz2
  go_enter Tryd.func56, Tryd.ntmps56
  by_cases h1 : c = 64
  · subst h1
    go_wp2_with fail
    go_ret
    exact ⟨by rw [← hz2.out]; rfl, rfl⟩
  by_cases h2 : c = 128
  · subst h2
    go_wp2_with fail
    go_ret
    exact ⟨by rw [← hz2.out]; rfl, rfl⟩
  by_cases h3 : c = 256
  · subst h3
    go_wp2_with fail
    go_ret
    exact ⟨by rw [← hz2.out]; rfl, rfl⟩
  by_cases h4 : c = 512
  · subst h4
    go_wp2_with fail
    go_ret
    exact ⟨by rw [← hz2.out]; rfl, rfl⟩
  by_cases h5 : c = 1024
  · subst h5
    go_wp2_with fail
    go_ret
    exact ⟨by rw [← hz2.out]; rfl, rfl⟩
  go_wp2_with fail
  go_ret
  exact ⟨by rw [← hz2.out]; simp [h1, h2, h3, h4, h5], rfl⟩
set_option maxHeartbeats 800000 in
set_option maxRecDepth 100000 in
theorem short_any (v s c : Int) (h t : ByteArray) (a : Option Addr) (n k : Nat) (w : World) :
    Calls Tryd.prog 54 #[.agg #[.int .i64 v, .int .i64 s, .int .i64 c, .string h, .string t, .slice a n k]] w fun e w' => e = .returned (.bool (decide (n = 0))) ∧ Below w.heap.size w w' := by
  have hb := Box.mk (bel_alloc w (.cells #[.int .i64 v, .int .i64 s, .int .i64 c, .string h, .string t, .slice a n k] 25))
  go_enter Tryd.func54, Tryd.ntmps54
  go_wp2_with fail
  go_ret
  exact ⟨by rw [show ((n : Int) == 0) = decide (n = 0) from by by_cases h : n = 0 <;> simp [h]]; rfl, hb.out⟩
set_option maxHeartbeats 800000 in
set_option maxRecDepth 100000 in
theorem count_any (v s c : Int) (h t : ByteArray) (a : Option Addr) (n k : Nat) (w : World) (m : Nat) (hn : numB v s c = true) (hm : cntI s c = (m : Int)) :
    Calls Tryd.prog 28 #[.agg #[.int .i64 v, .int .i64 s, .int .i64 c, .string h, .string t, .slice a n k]] w fun e w' => e = .returned (.int .i64 (m : Int)) ∧ Below w.heap.size w w' := by
  have hb := Box.mk (bel_alloc w (.cells #[.int .i64 v, .int .i64 s, .int .i64 c, .string h, .string t, .slice a n k] 25))
  obtain ⟨_, _, h1, h2, h3⟩ := num_sz hn
  have hmB : Box ((s + c - 1) / c = (m : Int)) := ⟨hm⟩
  have hsz := sz_cases h3
  have hc0 : 64 ≤ c := by omega
  have hc1 : c ≤ 1024 := by omega
  clear hn hm h3 hsz
  go_enter Tryd.func28, Tryd.ntmps28
  go_wp2_with fail
  go_ret
  refine ⟨?_, hb.out⟩
  rw [← hmB.out]
  rfl

/-- A bill in its own block. -/
def BAt (w : World) (b : Nat) (v s c : Int) (h t : ByteArray) (x : Value) : Prop := Pk.Blk w b [.int .i64 v, .int .i64 s, .int .i64 c, .string h, .string t, x] 25
theorem BAt.here {w w' : World} {b : Nat} {v s c : Int} {h t : ByteArray} {x : Value} (hA : BAt w b v s c h t x) (hb : Below w.heap.size w w') : BAt w' b v s c h t x := (hb.block b (Pk.Blk.lt hA)).trans hA
theorem BAt.cells {w : World} {b : Nat} {v s c : Int} {h t : ByteArray} {x : Value} (hA : BAt w b v s c h t x) :
    w.cell? ⟨b, 0, none⟩ = some (.int .i64 v) ∧ w.cell? ⟨b, 1, none⟩ = some (.int .i64 s) ∧ w.cell? ⟨b, 2, none⟩ = some (.int .i64 c) ∧ w.cell? ⟨b, 3, none⟩ = some (.string h) ∧ w.cell? ⟨b, 4, none⟩ = some (.string t) ∧ w.cell? ⟨b, 5, none⟩ = some x :=
  ⟨Pk.Blk.cell hA 0, Pk.Blk.cell hA 1, Pk.Blk.cell hA 2, Pk.Blk.cell hA 3, Pk.Blk.cell hA 4, Pk.Blk.cell hA 5⟩
theorem BAt.new (w : World) (v s c : Int) (h t : ByteArray) (x : Value) : BAt (w.alloc (.cells #[.int .i64 v, .int .i64 s, .int .i64 c, .string h, .string t, x] 25)) w.heap.size v s c h t x := Pk.Blk.new w [.int .i64 v, .int .i64 s, .int .i64 c, .string h, .string t, x] _
theorem BAt.range {w : World} {b : Nat} {v s c : Int} {h t : ByteArray} {x : Value} (hA : BAt w b v s c h t x) : Box (BAt w b v s c h t x) := ⟨hA⟩
set_option maxHeartbeats 800000 in
set_option maxRecDepth 100000 in
theorem numbers_any (v s c : Int) (h t : ByteArray) (a : Option Addr) (n k : Nat) (w : World) :
    Calls Tryd.prog 27 #[.agg #[.int .i64 v, .int .i64 s, .int .i64 c, .string h, .string t, .slice a n k]] w fun e w' => e = .returned (.bool (numB v s c)) ∧ Below w.heap.size w w' := by
  have hb := Box.mk (bel_alloc w (.cells #[.int .i64 v, .int .i64 s, .int .i64 c, .string h, .string t, .slice a n k] 25))
  have hA := BAt.new w v s c h t (.slice a n k)
  have h1 := within_any v 255
  have h2 := within_any s 8192
  have h3 := goodchunk_any c
  have hN : Box (numB v s c = (decide (1 ≤ v ∧ v ≤ 255) && (decide (1 ≤ s ∧ s ≤ 8192) && szB c))) := ⟨rfl⟩
  obtain ⟨p, hp⟩ : ∃ p, decide (1 ≤ v ∧ v ≤ 255) = p := ⟨_, rfl⟩
  obtain ⟨q, hq⟩ : ∃ q, decide (1 ≤ s ∧ s ≤ 8192) = q := ⟨_, rfl⟩
  obtain ⟨r, hr⟩ : ∃ r, szB c = r := ⟨_, rfl⟩
  rw [hp] at h1 hN
  rw [hq] at h2 hN
  rw [hr] at h3 hN
  obtain ⟨w1, hw1⟩ : ∃ W, w.alloc (.cells #[.int .i64 v, .int .i64 s, .int .i64 c, .string h, .string t, .slice a n k] 25) = W := ⟨_, rfl⟩
  rw [hw1] at hb hA
  obtain ⟨b, hbe⟩ : ∃ b, w.heap.size = b := ⟨_, rfl⟩
  rw [hbe] at hA
  obtain ⟨q0, q1, q2, q3, q4, q5⟩ := hA.cells
  clear hA
  replace h1 := h1 w1
  replace h2 := h2 w1
  replace h3 := h3 w1
  rw [hN.out]
  clear hp hq hr hN
  go_enter Tryd.func27, Tryd.ntmps27
  go_wp2_with fail
  refine h1.mono ?_
  rintro e w2 ⟨rfl, rfl⟩
  cases p
  · go_wp2_with fail
    go_ret
    exact ⟨rfl, hb.out⟩
  · go_wp2_with fail
    refine h2.mono ?_
    rintro e w2 ⟨rfl, rfl⟩
    cases q
    · go_wp2_with fail
      go_ret
      exact ⟨rfl, hb.out⟩
    · go_wp2_with fail
      refine h3.mono ?_
      rintro e w2 ⟨rfl, rfl⟩
      go_wp2_with fail
      go_ret
      exact ⟨rfl, hb.out⟩
theorem lst_cnt {s c : Int} {t : ByteArray} {l : List ByteArray} {m n : Nat} (hl : l.length = n) (h0 : 0 < n) (hm : cntI s c = (m : Int)) (h : n ≠ m) : lstB s c t l = false := by
  unfold lstB
  rw [hm, hl]
  have h1 : l.isEmpty = false := by cases l with
    | nil => simp at hl; omega
    | cons => rfl
  have h2 : decide ((n : Int) = (m : Int)) = false := by simp; omega
  rw [h1, h2]; rfl
theorem lst_size {s c : Int} {t : ByteArray} {l : List ByteArray} {i : Nat} (hi : i < l.length) (h : (l.getD i ByteArray.empty).size ≠ 32) : lstB s c t l = false := by
  unfold lstB
  have h1 : l.isEmpty = false := by cases l with
    | nil => simp at hi
    | cons => rfl
  have h2 : l.all (fun x => decide (x.size = 32)) = false := by
    rw [List.all_eq_false]
    refine ⟨l[i], List.getElem_mem _, ?_⟩
    have : l.getD i ByteArray.empty = l[i] := by simp [List.getD, hi]
    rw [this] at h
    simpa using h
  rw [h1, h2]; simp
theorem lst_root {s c : Int} {t : ByteArray} {l : List ByteArray} {n : Nat} (hl : l.length = n) (h0 : 0 < n) (hm : cntI s c = (n : Int)) (h : ∀ j, j < n → (l.getD j ByteArray.empty).size = 32) : lstB s c t l = decide (rootL l = t) ∧ ∀ x ∈ l, x.size = 32 := by
  have h1 : l.isEmpty = false := by cases l with
    | nil => simp at hl; omega
    | cons => rfl
  have h3 : ∀ x ∈ l, x.size = 32 := fun x hx => by
    obtain ⟨i, hi, rfl⟩ := List.getElem_of_mem hx
    have := h i (by omega)
    simpa [List.getD, hi] using this
  have h2 : l.all (fun x => decide (x.size = 32)) = true := by
    rw [List.all_eq_true]
    intro x hx
    simpa using h3 x hx
  refine ⟨?_, h3⟩
  unfold lstB
  rw [h1, h2, hm, hl]; simp
theorem fit32 {l : List ByteArray} (h : ∀ x ∈ l, x.size = 32) : Fit l := fun x hx => by rw [h x hx]; omega
set_option maxHeartbeats 1600000 in
set_option maxRecDepth 100000 in
theorem chunks_any (v s c : Int) (h t : ByteArray) (a : Option Addr) (n k : Nat) (l : List ByteArray) (w : World) (hn : numB v s c = true) (hP : PA w a n k l) (hK : KIs w) :
    Calls Tryd.prog 53 #[.agg #[.int .i64 v, .int .i64 s, .int .i64 c, .string h, .string t, .slice a n k]] w fun e w' => e = .returned (.bool (lstB s c t l)) ∧ Below w.heap.size w w' := by
  have hb := bel_alloc w (.cells #[.int .i64 v, .int .i64 s, .int .i64 c, .string h, .string t, .slice a n k] 25)
  have hA := BAt.new w v s c h t (.slice a n k)
  obtain ⟨m, hm, hm1, hm2, _⟩ := cnt_nat hn
  have hlen := hP.len
  have hsh := Box.mk fun w' => short_any v s c h t a n k w'
  have hct := Box.mk fun w' => count_any v s c h t a n k w' m hn hm
  have hPB := Box.mk fun w' (hx : Below w.heap.size w w') => hP.here hx
  have hRt := Box.mk fun w' (hx : Below w.heap.size w w') (hF : Fit l) => root_any n l a k w' (hP.here hx) (hK.below hx hK.lt) hF
  obtain ⟨Z, hZ⟩ : ∃ Z, lstB s c t l = Z := ⟨_, rfl⟩
  have hZB := Box.mk hZ
  have hcap := hP.cap
  have htop := hP.top
  rw [hZ]
  obtain ⟨w1, hw1⟩ : ∃ W, w.alloc (.cells #[.int .i64 v, .int .i64 s, .int .i64 c, .string h, .string t, .slice a n k] 25) = W := ⟨_, rfl⟩
  rw [hw1] at hb hA
  obtain ⟨b, hbe⟩ : ∃ b, w.heap.size = b := ⟨_, rfl⟩
  rw [hbe] at hA
  have qA := Box.mk fun w' (hx : Below w1.heap.size w1 w') => (hA.here hx).cells
  obtain ⟨q0, q1, q2, q3, q4, q5⟩ := hA.cells
  replace hb := Box.mk hb
  replace hA := Box.mk hA
  have h1 := hsh.out w1
  clear hZ hn hP hK
  go_enter Tryd.func53, Tryd.ntmps53
  go_wp2_with fail
  refine h1.mono ?_
  clear h1 hsh
  rintro e w2 ⟨rfl, hb2⟩
  replace hA := Box.mk (hA.out.here hb2)
  replace hb := Box.mk (mono_bel hb.out hb2 (Nat.le_refl _))
  clear q0 q1 q2 q3 q4 q5 hb2 hw1
  obtain ⟨q0, q1, q2, q3, q4, q5⟩ := hA.out.cells
  rcases Nat.eq_zero_or_pos n with hn0 | hn0
  · have hZt : Z = true := by
      rw [← hZB.out]
      obtain rfl : l = [] := List.length_eq_zero_iff.1 (hlen.trans hn0)
      rfl
    have hd : decide (n = 0) = true := by simpa using hn0
    rw [hd]
    go_wp2_with fail
    go_ret
    exact ⟨by rw [hZt]; rfl, hb.out⟩
  have hd : decide (n = 0) = false := by simp; omega
  rw [hd]
  clear hd
  have qA := Box.mk fun w' (hx : Below w2.heap.size w2 w') => (hA.out.here hx).cells
  go_wp2_with fail
  refine region_quiet (fun w' => Below w2.heap.size w2 w') (by kernel_rfl) (by kernel_rfl) (dB _) ?_
  repeat (go_big_quiet_step (first | exact fun _ => rfl | rfl))
  refine quiet_val rfl (.slice a n k) (fun w' hw' => by obtain ⟨q0, q1, q2, q3, q4, q5⟩ := qA.out w' hw'; go_simp) ?_
  simp only [Act.put, List.setIfInBounds_toArray, List.set_cons_succ, List.set_cons_zero]
  repeat (go_big_quiet_step (first | exact fun _ => rfl | rfl))
  refine quiet_val rfl (.agg #[.int .i64 v, .int .i64 s, .int .i64 c, .string h, .string t, .slice a n k]) (fun w' hw' => by obtain ⟨q0, q1, q2, q3, q4, q5⟩ := qA.out w' hw'; go_simp) ?_
  simp only [Act.put, List.setIfInBounds_toArray, List.set_cons_succ, List.set_cons_zero]
  repeat (go_big_quiet_step (first | exact fun _ => rfl | rfl))
  refine quiet_call rfl (.int .i64 (m : Int)) (fun w' hw' => bel_call (hct.out w') hw') (fun w' _ => by go_simp) ?_
  simp only [Act.put, List.setIfInBounds_toArray, List.set_cons_succ, List.set_cons_zero]
  repeat (go_big_quiet_step (first | exact fun _ => rfl | rfl))
  refine wpQuiet_nil ?_
  intro w3 hb3
  clear q0 q1 q2 q3 q4 q5 hct
  replace hA := Box.mk (hA.out.here hb3)
  replace hb := Box.mk (mono_bel hb.out hb3 (Nat.le_refl _))
  clear qA hb3
  by_cases hnm : n = m
  · subst hnm
    have hq : ((n : Int) != (n : Int)) = false := by simp
    obtain ⟨q0, q1, q2, q3, q4, q5⟩ := hA.out.cells
    have hS0 : Box ((∀ j, j < 0 → (l.getD j ByteArray.empty).size = 32) ∧ Below w3.heap.size w3 w3) := ⟨⟨fun j hj => by omega, Below.refl _ _⟩⟩
    go_wp2_with fail
    clear q0 q1 q2 q3 q4 q5
    go_loopw [16] (fun q wr => ∃ i : Nat, i ≤ n ∧ q = .int .i64 (i : Int) ∧ Box ((∀ j, j < i → (l.getD j ByteArray.empty).size = 32) ∧ Below w3.heap.size w3 wr)) (fun q _ => n - (intOf q).toNat)
    case atStart => exact ⟨0, by omega, rfl, hS0⟩
    case round =>
      clear hS0
      obtain ⟨i, hi, rfl, hS⟩ := hrel
      have hA2 := Box.mk (hA.out.here hS.out.2)
      have hb2 := Box.mk (mono_bel hb.out hS.out.2 (Nat.le_refl _))
      obtain ⟨q0, q1, q2, q3, q4, q5⟩ := hA2.out.cells
      by_cases hlt : i < n
      · have hii : (i : Int) < (n : Int) := by omega
        obtain ⟨blk, off, rfl, hblk, hcell⟩ := (hPB.out wr hb2.out).at_ (by omega)
        have hcl := hcell i hlt
        have hxz := Box.mk fun h => lst_size (s := s) (c := c) (t := t) (l := l) (i := i) (by omega) h
        have hsz := hS.out.1
        obtain ⟨x, hx⟩ : ∃ x, l.getD i ByteArray.empty = x := ⟨_, rfl⟩
        rw [hx] at hcl hxz
        rw [hZB.out] at hxz
        by_cases h32 : x.size = 32
        · have hS1 : Box ((∀ j, j < i + 1 → (l.getD j ByteArray.empty).size = 32) ∧ Below w3.heap.size w3 wr) := ⟨⟨fun j hj => by
            by_cases e : j = i
            · subst e; rw [hx]; exact h32
            · exact hsz j (by omega), hS.out.2⟩⟩
          have hq2 : ((x.size : Int) != 32) = false := by rw [h32]; rfl
          clear hS hsz hx hxz hcell hblk hA2 hb2
          go_wp2_with fail
          exact ⟨⟨i + 1, by omega, by go_num, hS1⟩, by simp [intOf]; omega⟩
        · have hq2 : ((x.size : Int) != 32) = true := by simp; omega
          have hZf := Box.mk (hxz.out h32)
          clear hS hsz hx hxz hcell hblk hA2 h32
          go_wp2_with fail
          go_ret
          exact ⟨by rw [hZf.out]; rfl, hb2.out⟩
      · obtain rfl : i = n := by omega
        have hnl : ¬ (i : Int) < (i : Int) := by omega
        obtain ⟨hz1, hz2⟩ := lst_root (s := s) (c := c) (t := t) hlen hn0 hm hS.out.1
        have hR := Box.mk fun w' hx => hRt.out w' hx (fit32 hz2)
        obtain ⟨R, hRe⟩ : ∃ R, rootL l = R := ⟨_, rfl⟩
        rw [hRe] at hR hz1
        rw [hZB.out, ← eqT] at hz1
        replace hz1 := Box.mk hz1
        clear hRe hz2 hRt hZB hPB hA hb hS
        have qA := Box.mk fun w' (hx : Below wr.heap.size wr w') => (hA2.out.here hx).cells
        have hb3 := Box.mk fun w' (hx : Below wr.heap.size wr w') => (mono_bel hb2.out hx (Nat.le_refl _) : Below w.heap.size w w')
        go_wp2_with fail
        refine region_quiet (fun w' => Below wr.heap.size wr w') (by kernel_rfl) (by kernel_rfl) (dB _) ?_
        repeat (go_big_quiet_step (first | exact fun _ => rfl | rfl))
        refine quiet_val rfl (.slice a i k) (fun w' hw' => by obtain ⟨q0, q1, q2, q3, q4, q5⟩ := qA.out w' hw'; go_simp) ?_
        simp only [Act.put, List.setIfInBounds_toArray, List.set_cons_succ, List.set_cons_zero]
        repeat (go_big_quiet_step (first | exact fun _ => rfl | rfl))
        refine quiet_call rfl (.string R) (fun w' hw' => bel_call (hR.out w' (hb3.out w' hw')) hw') (fun w' _ => by go_simp) ?_
        simp only [Act.put, List.setIfInBounds_toArray, List.set_cons_succ, List.set_cons_zero]
        repeat (go_big_quiet_step (first | exact fun _ => rfl | rfl))
        refine quiet_val rfl (.string t) (fun w' hw' => by obtain ⟨q0, q1, q2, q3, q4, q5⟩ := qA.out w' hw'; go_simp) ?_
        simp only [Act.put, List.setIfInBounds_toArray, List.set_cons_succ, List.set_cons_zero]
        repeat (go_big_quiet_step (first | exact fun _ => rfl | rfl))
        refine wpQuiet_nil ?_
        intro w4 hb4
        go_wp2_with fail
        go_ret
        exact ⟨by rw [hz1.out]; rfl, hb3.out w4 hb4⟩
  · have hq : ((n : Int) != (m : Int)) = true := by simp; omega
    have hZf : Box (Z = false) := ⟨hZB.out ▸ lst_cnt hlen hn0 hm hnm⟩
    go_wp2_with fail
    go_ret
    exact ⟨by rw [hZf.out]; rfl, hb.out⟩
set_option maxHeartbeats 1600000 in
set_option maxRecDepth 100000 in
theorem check_any (v s c : Int) (h t : ByteArray) (a : Option Addr) (n k : Nat) (l : List ByteArray) (w : World) (hP : PA w a n k l) (hK : KIs w) :
    Calls Tryd.prog 19 #[.agg #[.int .i64 v, .int .i64 s, .int .i64 c, .string h, .string t, .slice a n k]] w fun e w' => e = .returned (.int .i64 (chkI v s c h t l)) ∧ Below w.heap.size w w' := by
  have hb := bel_alloc w (.cells #[.int .i64 v, .int .i64 s, .int .i64 c, .string h, .string t, .slice a n k] 25)
  have hA := BAt.new w v s c h t (.slice a n k)
  have h1 := numbers_any v s c h t a n k (w.alloc (.cells #[.int .i64 v, .int .i64 s, .int .i64 c, .string h, .string t, .slice a n k] 25))
  have h2 := Box.mk fun w' (hx : Below w.heap.size w w') hn => chunks_any v s c h t a n k l w' hn (hP.here hx) (hK.below hx hK.lt)
  obtain ⟨Z, hZ⟩ : ∃ Z, chkI v s c h t l = Z := ⟨_, rfl⟩
  have hZB : Box ((if numB v s c && (decide (h.size = 32) && (decide (t.size = 32) && lstB s c t l)) then (0 : Int) else 1) = Z) := ⟨hZ⟩
  rw [hZ]
  obtain ⟨w1, hw1⟩ : ∃ W, w.alloc (.cells #[.int .i64 v, .int .i64 s, .int .i64 c, .string h, .string t, .slice a n k] 25) = W := ⟨_, rfl⟩
  rw [hw1] at hb hA h1
  obtain ⟨b, hbe⟩ : ∃ b, w.heap.size = b := ⟨_, rfl⟩
  rw [hbe] at hA
  obtain ⟨q0, q1, q2, q3, q4, q5⟩ := hA.cells
  replace hb := Box.mk hb
  replace hA := Box.mk hA
  clear hZ hP hK
  go_enter Tryd.func19, Tryd.ntmps19
  go_wp2_with fail
  refine h1.mono ?_
  clear h1
  rintro e w2 ⟨rfl, hb2⟩
  replace hA := Box.mk (hA.out.here hb2)
  replace hb := Box.mk (mono_bel hb.out hb2 (Nat.le_refl _))
  clear q0 q1 q2 q3 q4 q5 hb2 hw1
  obtain ⟨q0, q1, q2, q3, q4, q5⟩ := hA.out.cells
  by_cases hn : numB v s c = true
  · replace h2 := h2.out w2 hb.out hn
    rw [hn] at hZB ⊢
    rw [Bool.true_and] at hZB
    clear hn
    by_cases hh : h.size = 32
    · have e1 : ((h.size : Int) != 32) = false := by rw [hh]; rfl
      rw [decide_eq_true hh, Bool.true_and] at hZB
      clear hh
      by_cases ht : t.size = 32
      · have e2 : ((t.size : Int) != 32) = false := by rw [ht]; rfl
        rw [decide_eq_true ht, Bool.true_and] at hZB
        clear ht
        obtain ⟨L, hL⟩ : ∃ L, lstB s c t l = L := ⟨_, rfl⟩
        rw [hL] at h2 hZB
        clear hL
        go_wp2_with fail
        refine h2.mono ?_
        clear h2
        rintro e w3 ⟨rfl, hb3⟩
        replace hb := Box.mk (mono_bel hb.out hb3 (Nat.le_refl _))
        clear hb3 q0 q1 q2 q3 q4 q5 hA
        cases L
        · go_wp2_with fail
          go_ret
          exact ⟨by rw [← hZB.out]; rfl, hb.out⟩
        · go_wp2_with fail
          go_ret
          exact ⟨by rw [← hZB.out]; rfl, hb.out⟩
      · have e2 : ((t.size : Int) != 32) = true := by simp; omega
        rw [decide_eq_false ht, Bool.false_and] at hZB
        clear ht
        go_wp2_with fail
        go_ret
        exact ⟨by rw [← hZB.out]; rfl, hb.out⟩
    · have e1 : ((h.size : Int) != 32) = true := by simp; omega
      rw [decide_eq_false hh, Bool.false_and] at hZB
      clear hh
      go_wp2_with fail
      go_ret
      exact ⟨by rw [← hZB.out]; rfl, hb.out⟩
  · rw [Bool.not_eq_true] at hn
    rw [hn] at hZB ⊢
    rw [Bool.false_and] at hZB
    clear hn
    go_wp2_with fail
    go_ret
    exact ⟨by rw [← hZB.out]; rfl, hb.out⟩
end Go.Proofs.YtdnhpldcnmbncaaDoor.Bi

namespace Go.Proofs.YtdnhpldcnmbncaaDoor.Bi
open Go Go.RowKit Go.Proofs.YtdnhpldcnmbncaaDoor
set_option linter.all false

set_option maxHeartbeats 800000 in
set_option maxRecDepth 100000 in
theorem rsize_any (c : Int) (w : World) :
    Calls Tryd.prog 34 #[.int .i64 c] w fun e w' => e = .returned (.bool (szB c)) ∧ w' = w := by
  obtain ⟨z, hz⟩ : ∃ z, szB c = z := ⟨_, rfl⟩
  have hz2 := Box.mk hz
  rw [hz]
  clear hz
  unfold szB at hz2
  go_enter Tryd.func34, Tryd.ntmps34
  by_cases h1 : c = 64
  · subst h1
    go_wp2_with fail
    go_ret
    exact ⟨by rw [← hz2.out]; rfl, rfl⟩
  by_cases h2 : c = 128
  · subst h2
    go_wp2_with fail
    go_ret
    exact ⟨by rw [← hz2.out]; rfl, rfl⟩
  by_cases h3 : c = 256
  · subst h3
    go_wp2_with fail
    go_ret
    exact ⟨by rw [← hz2.out]; rfl, rfl⟩
  by_cases h4 : c = 512
  · subst h4
    go_wp2_with fail
    go_ret
    exact ⟨by rw [← hz2.out]; rfl, rfl⟩
  by_cases h5 : c = 1024
  · subst h5
    go_wp2_with fail
    go_ret
    exact ⟨by rw [← hz2.out]; rfl, rfl⟩
  go_wp2_with fail
  go_ret
  exact ⟨by rw [← hz2.out]; simp only [Bool.or_assoc]; rfl, rfl⟩
theorem wrapN {m : Nat} (h : m ≤ 9223372036854775807) : IntKind.i64.wrap (m : Int) = (m : Int) := by rw [IntKind.wrap_i64]; omega
theorem num_no {v s c : Int} (h : ¬ (1 ≤ v ∧ v ≤ 255 ∧ 1 ≤ s ∧ s ≤ 8192)) : numB v s c = false := by
  cases hn : numB v s c with
  | false => rfl
  | true => exact absurd (let x := num_sz hn; ⟨x.1, x.2.1, x.2.2.1, x.2.2.2.1⟩) h
theorem num_no2 {v s c : Int} (h : szB c = false) : numB v s c = false := by
  unfold numB; rw [h]; simp
theorem num_yes {v s c : Int} (h : 1 ≤ v ∧ v ≤ 255 ∧ 1 ≤ s ∧ s ≤ 8192) (h2 : szB c = true) : numB v s c = true := by
  unfold numB; rw [h2]; simp; omega
theorem chk_no {v s c : Int} {h t : ByteArray} {l : List ByteArray} (hn : numB v s c = false) : chkI v s c h t l = 1 := by unfold chkI chkB; rw [hn]; rfl
theorem chk_h {v s c : Int} {h t : ByteArray} {l : List ByteArray} (hn : h.size ≠ 32) : chkI v s c h t l = 1 := by unfold chkI chkB; rw [decide_eq_false hn]; simp
theorem chk_t {v s c : Int} {h t : ByteArray} {l : List ByteArray} (hn : t.size ≠ 32) : chkI v s c h t l = 1 := by unfold chkI chkB; rw [decide_eq_false hn]; simp
theorem chk_l {v s c : Int} {h t : ByteArray} {l : List ByteArray} (hn : lstB s c t l = false) : chkI v s c h t l = 1 := by unfold chkI chkB; rw [hn]; simp
theorem chk_y {v s c : Int} {h t : ByteArray} {l : List ByteArray} (hn : numB v s c = true) (hh : h.size = 32) (ht : t.size = 32) (hl : lstB s c t l = true) : chkI v s c h t l = 0 := by unfold chkI chkB; rw [hn, hh, ht, hl]; rfl
theorem lst_no {s c : Int} {t : ByteArray} {l : List ByteArray} {n : Nat} (hl : l.length = n) (h0 : 0 < n) (h : rootL l ≠ t) : lstB s c t l = false := by
  unfold lstB
  have h1 : l.isEmpty = false := by cases l with
    | nil => simp at hl; omega
    | cons => rfl
  rw [h1, decide_eq_false h]; simp
set_option maxHeartbeats 3200000 in
set_option maxRecDepth 100000 in
theorem rcheck_any (v s c : Int) (h t : ByteArray) (a : Option Addr) (n k : Nat) (l : List ByteArray) (w : World) (hP : PA w a n k l) (hF : Fit l) :
    Calls Tryd.prog 20 #[.agg #[.int .i64 v, .int .i64 s, .int .i64 c, .string h, .string t, .slice a n k]] w fun e w' => e = .returned (.int .i64 (chkI v s c h t l)) ∧ Below w.heap.size w w' := by
  have hb := bel_alloc w (.cells #[.int .i64 v, .int .i64 s, .int .i64 c, .string h, .string t, .slice a n k] 25)
  have hA := BAt.new w v s c h t (.slice a n k)
  have h1 := rsize_any c (w.alloc (.cells #[.int .i64 v, .int .i64 s, .int .i64 c, .string h, .string t, .slice a n k] 25))
  have hPB := Box.mk fun w' (hx : Below w.heap.size w w') => hP.here hx
  have hRt := Box.mk fun w' (hx : Below w.heap.size w w') => rroot_any n l a k w' (hP.here hx) hF
  have hlen := Box.mk hP.len
  have hcap := hP.cap
  have htop := hP.top
  obtain ⟨Z, hZ⟩ : ∃ Z, chkI v s c h t l = Z := ⟨_, rfl⟩
  have hZB := Box.mk hZ
  rw [hZ]
  obtain ⟨w1, hw1⟩ : ∃ W, w.alloc (.cells #[.int .i64 v, .int .i64 s, .int .i64 c, .string h, .string t, .slice a n k] 25) = W := ⟨_, rfl⟩
  rw [hw1] at hb hA h1
  obtain ⟨b, hbe⟩ : ∃ b, w.heap.size = b := ⟨_, rfl⟩
  rw [hbe] at hA
  obtain ⟨q0, q1, q2, q3, q4, q5⟩ := hA.cells
  replace hb := Box.mk hb
  replace hA := Box.mk hA
  clear hZ hP hF
  go_enter Tryd.func20, Tryd.ntmps20
  by_cases g1 : v < 1
  · have hZ1 : Box (Z = 1) := ⟨hZB.out ▸ chk_no (num_no (by omega))⟩
    go_wp2_with fail
    go_ret
    exact ⟨by rw [hZ1.out]; rfl, by first | exact hb.out | exact hbe ▸ hb.out⟩
  by_cases g2 : v > 255
  · have hZ1 : Box (Z = 1) := ⟨hZB.out ▸ chk_no (num_no (by omega))⟩
    go_wp2_with fail
    go_ret
    exact ⟨by rw [hZ1.out]; rfl, by first | exact hb.out | exact hbe ▸ hb.out⟩
  by_cases g3 : s < 1
  · have hZ1 : Box (Z = 1) := ⟨hZB.out ▸ chk_no (num_no (by omega))⟩
    go_wp2_with fail
    go_ret
    exact ⟨by rw [hZ1.out]; rfl, by first | exact hb.out | exact hbe ▸ hb.out⟩
  by_cases g4 : s > 8192
  · have hZ1 : Box (Z = 1) := ⟨hZB.out ▸ chk_no (num_no (by omega))⟩
    go_wp2_with fail
    go_ret
    exact ⟨by rw [hZ1.out]; rfl, by first | exact hb.out | exact hbe ▸ hb.out⟩
  go_wp2_with fail
  refine h1.mono ?_
  clear h1
  rintro e w2 ⟨rfl, rfl⟩
  cases hsz : szB c
  · have hZ1 : Box (Z = 1) := ⟨hZB.out ▸ chk_no (num_no2 hsz)⟩
    clear hsz
    go_wp2_with fail
    go_ret
    exact ⟨by rw [hZ1.out]; rfl, by first | exact hb.out | exact hbe ▸ hb.out⟩
  have hn := num_yes (v := v) (s := s) (by omega) hsz
  have hcs := sz_cases hsz
  clear hsz
  by_cases hh : h.size = 32
  · have e1 : ((h.size : Int) != 32) = false := by rw [hh]; rfl
    by_cases ht : t.size = 32
    · have e2 : ((t.size : Int) != 32) = false := by rw [ht]; rfl
      replace hh := Box.mk hh
      replace ht := Box.mk ht
      obtain ⟨m, hm, hm1, hm2, hm3, hm4⟩ := cnt_nat hn
      have hc0 : 64 ≤ c := by omega
      have hc1 : c ≤ 1024 := by omega
      have hs0 : 1 ≤ s := by omega
      have hs1 : s ≤ 8192 := by omega
      replace hm : Box ((s + c - 1) / c = (m : Int)) := ⟨hm⟩
      replace hn := Box.mk hn
      clear hcs hm3 hm4 g1 g2 g3 g4
      rcases Nat.eq_zero_or_pos n with hn0 | hn0
      · have hZ1 : Box (Z = 0) := ⟨hZB.out ▸ chk_y hn.out hh.out ht.out (by
          obtain rfl : l = [] := List.length_eq_zero_iff.1 (hlen.out.trans hn0)
          rfl)⟩
        have hd : ((n : Int) == 0) = true := by rw [hn0]; rfl
        go_wp2_with fail
        go_ret
        exact ⟨by rw [hZ1.out]; rfl, by first | exact hb.out | exact hbe ▸ hb.out⟩
      have hd : ((n : Int) == 0) = false := by simp; omega
      have qA := Box.mk fun w' (hx : Below w2.heap.size w2 w') => (hA.out.here hx).cells
      have hb3 := Box.mk fun w' (hx : Below w2.heap.size w2 w') => (mono_bel hb.out hx (Nat.le_refl _) : Below w.heap.size w w')
      go_wp2_with fail
      refine region_quiet (fun w' => Below w2.heap.size w2 w') (by kernel_rfl) (by kernel_rfl) (dB _) ?_
      repeat (go_big_quiet_step (first | exact fun _ => rfl | rfl))
      refine quiet_val rfl (.slice a n k) (fun w' hw' => by obtain ⟨q0, q1, q2, q3, q4, q5⟩ := qA.out w' hw'; go_simp) ?_
      simp only [Act.put, List.setIfInBounds_toArray, List.set_cons_succ, List.set_cons_zero]
      repeat (go_big_quiet_step (first | exact fun _ => rfl | rfl))
      refine quiet_val rfl (.int .i64 s) (fun w' hw' => by obtain ⟨q0, q1, q2, q3, q4, q5⟩ := qA.out w' hw'; go_simp) ?_
      simp only [Act.put, List.setIfInBounds_toArray, List.set_cons_succ, List.set_cons_zero]
      repeat (go_big_quiet_step (first | exact fun _ => rfl | rfl))
      refine quiet_val rfl (.int .i64 c) (fun w' hw' => by obtain ⟨q0, q1, q2, q3, q4, q5⟩ := qA.out w' hw'; go_simp) ?_
      simp only [Act.put, List.setIfInBounds_toArray, List.set_cons_succ, List.set_cons_zero]
      repeat (go_big_quiet_step (first | exact fun _ => rfl | rfl))
      refine quiet_val rfl (.int .i64 c) (fun w' hw' => by obtain ⟨q0, q1, q2, q3, q4, q5⟩ := qA.out w' hw'; go_simp) ?_
      simp only [Act.put, List.setIfInBounds_toArray, List.set_cons_succ, List.set_cons_zero]
      refine quiet_val rfl (.int .i64 (m : Int)) (fun w' hw' => by go_simp; rw [if_neg (by omega), Int.tdiv_eq_ediv_of_nonneg (by omega), hm.out, wrapN (by omega)]) ?_
      by_cases hnm : n = m
      · subst hnm
        have hq : ((n : Int) != (n : Int)) = false := by simp
        simp only [Act.put, List.setIfInBounds_toArray, List.set_cons_succ, List.set_cons_zero]
        repeat (go_big_quiet_step (first | exact fun _ => rfl | rfl))
        refine quiet_val rfl (.slice a n k) (fun w' hw' => by obtain ⟨q0, q1, q2, q3, q4, q5⟩ := qA.out w' hw'; go_simp) ?_
        simp only [Act.put, List.setIfInBounds_toArray, List.set_cons_succ, List.set_cons_zero]
        repeat (go_big_quiet_step (first | exact fun _ => rfl | rfl))
        obtain ⟨R, hRe⟩ : ∃ R, rootL l = R := ⟨_, rfl⟩
        rw [hRe] at hRt
        refine quiet_call rfl (.string R) (fun w' hw' => bel_call (hRt.out w' (hb3.out w' hw')) hw') (fun w' _ => by go_simp) ?_
        simp only [Act.put, List.setIfInBounds_toArray, List.set_cons_succ, List.set_cons_zero]
        repeat (go_big_quiet_step (first | exact fun _ => rfl | rfl))
        by_cases hrt : R = t
        · have heq : (R.toList == t.toList) = true := by rw [eqT, decide_eq_true hrt]
          refine quiet_val rfl (.string t) (fun w' hw' => by obtain ⟨q0, q1, q2, q3, q4, q5⟩ := qA.out w' hw'; go_simp) ?_
          simp only [Act.put, List.setIfInBounds_toArray, List.set_cons_succ, List.set_cons_zero]
          repeat (go_big_quiet_step (first | exact fun _ => rfl | rfl))
          refine wpQuiet_nil ?_
          intro w3 hw3
          clear q0 q1 q2 q3 q4 q5
          have hA3 := Box.mk (hA.out.here hw3)
          have hb4 := Box.mk (hb3.out w3 hw3)
          have hS0 : Box ((∀ j, j < 0 → (l.getD j ByteArray.empty).size = 32) ∧ Below w3.heap.size w3 w3) := ⟨⟨fun j hj => by omega, Below.refl _ _⟩⟩
          have hnum : Box (numB v s c = true) := hn
          have hRt2 : Box (rootL l = t) := ⟨hRe.trans hrt⟩
          clear hw3 qA hb3 hRt hRe hrt heq hA hb hw1
          go_wp2_with fail
          go_loopw [3] (fun q wr => ∃ i : Nat, i ≤ n ∧ q = .int .i64 (i : Int) ∧ Box ((∀ j, j < i → (l.getD j ByteArray.empty).size = 32) ∧ Below w3.heap.size w3 wr)) (fun q _ => n - (intOf q).toNat)
          case atStart => exact ⟨0, by omega, rfl, hS0⟩
          case round =>
            clear hS0
            obtain ⟨i, hi, rfl, hS⟩ := hrel
            have hA2 := Box.mk (hA3.out.here hS.out.2)
            have hb2 := Box.mk (mono_bel hb4.out hS.out.2 (Nat.le_refl _))
            obtain ⟨q0, q1, q2, q3, q4, q5⟩ := hA2.out.cells
            by_cases hlt : i < n
            · have hii : (i : Int) < (n : Int) := by omega
              obtain ⟨blk, off, rfl, hblk, hcell⟩ := (hPB.out wr hb2.out).at_ (by omega)
              have hcl := hcell i hlt
              have hxz := Box.mk fun hh => lst_size (s := s) (c := c) (t := t) (l := l) (i := i) (by rw [hlen.out]; omega) hh
              have hsz := hS.out.1
              obtain ⟨x, hx⟩ : ∃ x, l.getD i ByteArray.empty = x := ⟨_, rfl⟩
              rw [hx] at hcl hxz
              by_cases h32 : x.size = 32
              · have hS1 : Box ((∀ j, j < i + 1 → (l.getD j ByteArray.empty).size = 32) ∧ Below w3.heap.size w3 wr) := ⟨⟨fun j hj => by
                  by_cases e : j = i
                  · subst e; rw [hx]; exact h32
                  · exact hsz j (by omega), hS.out.2⟩⟩
                have hq2 : ((x.size : Int) != 32) = false := by rw [h32]; rfl
                clear hS hsz hx hxz hcell hblk hA2 hb2
                go_wp2_with fail
                exact ⟨⟨i + 1, by omega, by go_num, hS1⟩, by simp [intOf]; omega⟩
              · have hq2 : ((x.size : Int) != 32) = true := by simp; omega
                have hZf : Box (Z = 1) := ⟨hZB.out ▸ chk_l (hxz.out h32)⟩
                clear hS hsz hx hxz hcell hblk hA2 h32
                go_wp2_with fail
                go_ret
                exact ⟨by rw [hZf.out]; rfl, by first | exact hb2.out | exact hbe ▸ hb2.out⟩
            · obtain rfl : i = n := by omega
              have hnl : ¬ (i : Int) < (i : Int) := by omega
              obtain ⟨hz1, hz2⟩ := lst_root (s := s) (c := c) (t := t) hlen.out hn0 hm.out hS.out.1
              have hZf : Box (Z = 0) := ⟨hZB.out ▸ chk_y hnum.out hh.out ht.out (by rw [hz1, hRt2.out]; simp)⟩
              clear hz1 hz2 hS
              go_wp2_with fail
              go_ret
              exact ⟨by rw [hZf.out]; rfl, by first | exact hb2.out | exact hbe ▸ hb2.out⟩
        · have heq : (R.toList == t.toList) = false := by rw [eqT, decide_eq_false hrt]
          have hZf : Box (Z = 1) := ⟨hZB.out ▸ chk_l (lst_no hlen.out hn0 (by rw [hRe]; exact hrt))⟩
          refine quiet_val rfl (.string t) (fun w' hw' => by obtain ⟨q0, q1, q2, q3, q4, q5⟩ := qA.out w' hw'; go_simp) ?_
          simp only [Act.put, List.setIfInBounds_toArray, List.set_cons_succ, List.set_cons_zero]
          repeat (go_big_quiet_step (first | exact fun _ => rfl | rfl))
          refine wpQuiet_nil ?_
          intro w3 hw3
          go_wp2_with fail
          go_ret
          exact ⟨by rw [hZf.out]; rfl, by first | exact hb3.out w3 hw3 | exact hbe ▸ hb3.out w3 hw3⟩
      · have hq : ((n : Int) != (m : Int)) = true := by simp; omega
        have hZf : Box (Z = 1) := ⟨hZB.out ▸ chk_l (lst_cnt hlen.out hn0 hm.out hnm)⟩
        simp only [Act.put, List.setIfInBounds_toArray, List.set_cons_succ, List.set_cons_zero]
        repeat (go_big_quiet_step (first | exact fun _ => rfl | rfl))
        refine wpQuiet_nil ?_
        intro w3 hw3
        go_wp2_with fail
        go_ret
        exact ⟨by rw [hZf.out]; rfl, by first | exact hb3.out w3 hw3 | exact hbe ▸ hb3.out w3 hw3⟩
    · have e2 : ((t.size : Int) != 32) = true := by simp; omega
      have hZ1 : Box (Z = 1) := ⟨hZB.out ▸ chk_t ht⟩
      clear ht hcs
      go_wp2_with fail
      go_ret
      exact ⟨by rw [hZ1.out]; rfl, by first | exact hb.out | exact hbe ▸ hb.out⟩
  · have e1 : ((h.size : Int) != 32) = true := by simp; omega
    have hZ1 : Box (Z = 1) := ⟨hZB.out ▸ chk_h hh⟩
    clear hh hcs
    go_wp2_with fail
    go_ret
    exact ⟨by rw [hZ1.out]; rfl, by first | exact hb.out | exact hbe ▸ hb.out⟩
/-- How many chunks there are of a good bill; of any other none. -/
def cnM (v s c : Int) (h t : ByteArray) (l : List ByteArray) : Nat := if chkB v s c h t l then (cntI s c).toNat else 0
def cutP (s c : Int) (m : Nat) (i : Int) : Int × Int := if 0 ≤ i ∧ i < (m : Int) then (i * c, min ((i + 1) * c) s) else (0, 0)
theorem chk_num {v s c : Int} {h t : ByteArray} {l : List ByteArray} (hc : chkB v s c h t l = true) : numB v s c = true := by
  unfold chkB at hc; simp only [Bool.and_eq_true] at hc; exact hc.1
theorem cn_yes {v s c : Int} {h t : ByteArray} {l : List ByteArray} (hc : chkB v s c h t l = true) : cntI s c = (cnM v s c h t l : Int) ∧ 1 ≤ cnM v s c h t l ∧ cnM v s c h t l ≤ 128 := by
  obtain ⟨m, hm, h1, h2, _⟩ := cnt_nat (chk_num hc)
  unfold cnM
  rw [if_pos hc, hm]
  omega
theorem cn_no {v s c : Int} {h t : ByteArray} {l : List ByteArray} (hc : chkB v s c h t l = false) : cnM v s c h t l = 0 := by
  unfold cnM; rw [hc]; rfl
set_option maxHeartbeats 1600000 in
set_option maxRecDepth 100000 in
theorem bcount_any (v s c : Int) (h t : ByteArray) (a : Option Addr) (n k : Nat) (l : List ByteArray) (w : World) (hP : PA w a n k l) (hK : KIs w) :
    Calls Tryd.prog 21 #[.agg #[.int .i64 v, .int .i64 s, .int .i64 c, .string h, .string t, .slice a n k]] w fun e w' => e = .returned (.int .i64 (cnM v s c h t l : Int)) ∧ Below w.heap.size w w' := by
  have hb := bel_alloc w (.cells #[.int .i64 v, .int .i64 s, .int .i64 c, .string h, .string t, .slice a n k] 25)
  have hA := BAt.new w v s c h t (.slice a n k)
  have h1 := check_any v s c h t a n k l _ (hP.here hb) (hK.below hb hK.lt)
  have h2 := Box.mk fun w' hn hm => count_any v s c h t a n k w' (cnM v s c h t l) hn hm
  have hy := Box.mk (cn_yes (v := v) (s := s) (c := c) (h := h) (t := t) (l := l))
  have hn := Box.mk (cn_no (v := v) (s := s) (c := c) (h := h) (t := t) (l := l))
  have hnu := Box.mk (chk_num (v := v) (s := s) (c := c) (h := h) (t := t) (l := l))
  unfold chkI at h1
  obtain ⟨m, hm⟩ : ∃ m, cnM v s c h t l = m := ⟨_, rfl⟩
  obtain ⟨B, hB⟩ : ∃ B, chkB v s c h t l = B := ⟨_, rfl⟩
  rw [hm] at h2 hy hn ⊢
  rw [hB] at h1 hy hn hnu
  obtain ⟨w1, hw1⟩ : ∃ W, w.alloc (.cells #[.int .i64 v, .int .i64 s, .int .i64 c, .string h, .string t, .slice a n k] 25) = W := ⟨_, rfl⟩
  rw [hw1] at hb hA h1
  obtain ⟨b, hbe⟩ : ∃ b, w.heap.size = b := ⟨_, rfl⟩
  rw [hbe] at hA
  obtain ⟨q0, q1, q2, q3, q4, q5⟩ := hA.cells
  replace hb := Box.mk hb
  replace hA := Box.mk hA
  clear hm hB hP hK
  go_enter Tryd.func21, Tryd.ntmps21
  cases B
  · replace hn := Box.mk (hn.out rfl)
    rw [if_neg (by decide)] at h1
    go_wp2_with fail
    refine h1.mono ?_
    clear h1
    rintro e w2 ⟨rfl, hb2⟩
    replace hb := Box.mk (mono_bel hb.out hb2 (Nat.le_refl _))
    clear hb2 q0 q1 q2 q3 q4 q5 hA
    go_wp2_with fail
    go_ret
    exact ⟨by rw [hn.out]; rfl, by first | exact hb.out | exact hbe ▸ hb.out⟩
  · rw [if_pos rfl] at h1
    replace h2 := Box.mk fun w' => h2.out w' (hnu.out rfl) (hy.out rfl).1
    go_wp2_with fail
    refine h1.mono ?_
    clear h1
    rintro e w2 ⟨rfl, hb2⟩
    replace hb := Box.mk (mono_bel hb.out hb2 (Nat.le_refl _))
    replace hA := Box.mk (hA.out.here hb2)
    clear hb2 q0 q1 q2 q3 q4 q5 hw1
    obtain ⟨q0, q1, q2, q3, q4, q5⟩ := hA.out.cells
    have h3 := h2.out w2
    go_wp2_with fail
    refine h3.mono ?_
    clear h3
    rintro e w3 ⟨rfl, hb2⟩
    replace hb := Box.mk (mono_bel hb.out hb2 (Nat.le_refl _))
    go_wp2_with fail
    go_ret
    exact ⟨rfl, by first | exact hb.out | exact hbe ▸ hb.out⟩
set_option maxHeartbeats 1600000 in
set_option maxRecDepth 100000 in
theorem rcount_any (v s c : Int) (h t : ByteArray) (a : Option Addr) (n k : Nat) (l : List ByteArray) (w : World) (hP : PA w a n k l) (hF : Fit l) :
    Calls Tryd.prog 22 #[.agg #[.int .i64 v, .int .i64 s, .int .i64 c, .string h, .string t, .slice a n k]] w fun e w' => e = .returned (.int .i64 (cnM v s c h t l : Int)) ∧ Below w.heap.size w w' := by
  have hb := bel_alloc w (.cells #[.int .i64 v, .int .i64 s, .int .i64 c, .string h, .string t, .slice a n k] 25)
  have hA := BAt.new w v s c h t (.slice a n k)
  have h1 := rcheck_any v s c h t a n k l _ (hP.here hb) hF
  have hy := Box.mk (cn_yes (v := v) (s := s) (c := c) (h := h) (t := t) (l := l))
  have hn := Box.mk (cn_no (v := v) (s := s) (c := c) (h := h) (t := t) (l := l))
  have hnu := Box.mk (chk_num (v := v) (s := s) (c := c) (h := h) (t := t) (l := l))
  unfold chkI at h1
  obtain ⟨m, hm⟩ : ∃ m, cnM v s c h t l = m := ⟨_, rfl⟩
  obtain ⟨B, hB⟩ : ∃ B, chkB v s c h t l = B := ⟨_, rfl⟩
  rw [hm] at hy hn ⊢
  rw [hB] at h1 hy hn hnu
  obtain ⟨w1, hw1⟩ : ∃ W, w.alloc (.cells #[.int .i64 v, .int .i64 s, .int .i64 c, .string h, .string t, .slice a n k] 25) = W := ⟨_, rfl⟩
  rw [hw1] at hb hA h1
  obtain ⟨b, hbe⟩ : ∃ b, w.heap.size = b := ⟨_, rfl⟩
  rw [hbe] at hA
  obtain ⟨q0, q1, q2, q3, q4, q5⟩ := hA.cells
  replace hb := Box.mk hb
  replace hA := Box.mk hA
  clear hm hB hP hF
  go_enter Tryd.func22, Tryd.ntmps22
  cases B
  · replace hn := Box.mk (hn.out rfl)
    rw [if_neg (by decide)] at h1
    go_wp2_with fail
    refine h1.mono ?_
    clear h1
    rintro e w2 ⟨rfl, hb2⟩
    replace hb := Box.mk (mono_bel hb.out hb2 (Nat.le_refl _))
    clear hb2 q0 q1 q2 q3 q4 q5 hA
    go_wp2_with fail
    go_ret
    exact ⟨by rw [hn.out]; rfl, by first | exact hb.out | exact hbe ▸ hb.out⟩
  · rw [if_pos rfl] at h1
    obtain ⟨_, _, hs0, hs1, h3⟩ := num_sz (hnu.out rfl)
    have hsz := sz_cases h3
    have hc0 : 64 ≤ c := by omega
    have hc1 : c ≤ 1024 := by omega
    have hm : Box ((s + c - 1) / c = (m : Int)) := ⟨(hy.out rfl).1⟩
    clear hsz h3 hy hn
    go_wp2_with fail
    refine h1.mono ?_
    clear h1
    rintro e w2 ⟨rfl, hb2⟩
    replace hb := Box.mk (mono_bel hb.out hb2 (Nat.le_refl _))
    replace hA := Box.mk (hA.out.here hb2)
    clear hb2 q0 q1 q2 q3 q4 q5 hw1
    obtain ⟨q0, q1, q2, q3, q4, q5⟩ := hA.out.cells
    go_wp2_with fail
    go_ret
    exact ⟨by rw [← hm.out]; rfl, by first | exact hb.out | exact hbe ▸ hb.out⟩
end Go.Proofs.YtdnhpldcnmbncaaDoor.Bi

namespace Go.Proofs.YtdnhpldcnmbncaaDoor.Bi
open Go Go.RowKit Go.Proofs.YtdnhpldcnmbncaaDoor
set_option linter.all false

theorem mul_le {c i m : Int} (hc0 : 64 ≤ c) (hc1 : c ≤ 1024) (h0 : 0 ≤ i) (h1 : i ≤ m) (hm : m ≤ 129) : 0 ≤ i * c ∧ i * c ≤ 132096 := by
  refine ⟨Int.mul_nonneg h0 (by omega), ?_⟩
  have h2 : i * c ≤ 129 * c := Int.mul_le_mul_of_nonneg_right (by omega) (by omega)
  omega
set_option maxHeartbeats 1600000 in
set_option maxRecDepth 100000 in
theorem ucut_any (v s c i : Int) (h t : ByteArray) (a : Option Addr) (n k : Nat) (w : World) (hc0 : 64 ≤ c) (hc1 : c ≤ 1024) (hi0 : 0 ≤ i) (hi1 : i ≤ 128) (hs0 : 0 ≤ s) (hs1 : s ≤ 8192) :
    Calls Tryd.prog 29 #[.agg #[.int .i64 v, .int .i64 s, .int .i64 c, .string h, .string t, .slice a n k], .int .i64 i] w fun e w' => e = .returned (.tuple #[.int .i64 (i * c), .int .i64 (min ((i + 1) * c) s)]) ∧ Below w.heap.size w w' := by
  have hb := bel_alloc w (.cells #[.int .i64 v, .int .i64 s, .int .i64 c, .string h, .string t, .slice a n k] 25)
  have hA := BAt.new w v s c h t (.slice a n k)
  obtain ⟨m0, m1⟩ := mul_le (m := 129) hc0 hc1 hi0 (by omega) (by omega)
  obtain ⟨m2, m3⟩ := mul_le (i := i + 1) (m := 129) hc0 hc1 (by omega) (by omega) (by omega)
  obtain ⟨w1, hw1⟩ : ∃ W, w.alloc (.cells #[.int .i64 v, .int .i64 s, .int .i64 c, .string h, .string t, .slice a n k] 25) = W := ⟨_, rfl⟩
  rw [hw1] at hb hA
  obtain ⟨b, hbe⟩ : ∃ b, w.heap.size = b := ⟨_, rfl⟩
  rw [hbe] at hA
  have qA := Box.mk fun w' (hx : Below w1.heap.size w1 w') => (hA.here hx).cells
  replace hb := Box.mk hb
  clear hA
  obtain ⟨X, hX⟩ : ∃ X, i * c = X := ⟨_, rfl⟩
  obtain ⟨Y, hY⟩ : ∃ Y, (i + 1) * c = Y := ⟨_, rfl⟩
  rw [hX] at m0 m1 ⊢
  rw [hY] at m2 m3 ⊢
  obtain ⟨M, hM⟩ : ∃ M, min Y s = M := ⟨_, rfl⟩
  rw [hM]
  go_enter Tryd.func29, Tryd.ntmps29
  go_wp2_with fail
  refine region_quiet (fun w' => Below w1.heap.size w1 w') (by kernel_rfl) (by kernel_rfl) (dB _) ?_
  repeat (go_big_quiet_step (first | exact fun _ => rfl | rfl))
  refine quiet_val rfl (.int .i64 c) (fun w' hw' => by obtain ⟨q0, q1, q2, q3, q4, q5⟩ := qA.out w' hw'; go_simp) ?_
  simp only [Act.put, List.setIfInBounds_toArray, List.set_cons_succ, List.set_cons_zero]
  repeat (go_big_quiet_step (first | exact fun _ => rfl | rfl))
  refine quiet_val rfl (.int .i64 c) (fun w' hw' => by obtain ⟨q0, q1, q2, q3, q4, q5⟩ := qA.out w' hw'; go_simp) ?_
  simp only [Act.put, List.setIfInBounds_toArray, List.set_cons_succ, List.set_cons_zero]
  repeat (go_big_quiet_step (first | exact fun _ => rfl | rfl))
  refine quiet_val rfl (.int .i64 s) (fun w' hw' => by obtain ⟨q0, q1, q2, q3, q4, q5⟩ := qA.out w' hw'; go_simp) ?_
  simp only [Act.put, List.setIfInBounds_toArray, List.set_cons_succ, List.set_cons_zero]
  repeat (go_big_quiet_step (first | exact fun _ => rfl | rfl))
  refine wpQuiet_nil ?_
  intro w2 hw2
  go_wp2_with fail
  go_returns
  exact ⟨rfl, by first | exact mono_bel hb.out hw2 (Nat.le_refl _) | exact hbe ▸ mono_bel hb.out hw2 (Nat.le_refl _)⟩
theorem cn_pos {v s c : Int} {h t : ByteArray} {l : List ByteArray} (hc : 0 < cnM v s c h t l) : chkB v s c h t l = true := by
  cases e : chkB v s c h t l with
  | true => rfl
  | false => rw [cn_no e] at hc; omega
theorem chk_sz {v s c : Int} {h t : ByteArray} {l : List ByteArray} (hc : chkB v s c h t l = true) : 1 ≤ s ∧ s ≤ 8192 ∧ 64 ≤ c ∧ c ≤ 1024 := by
  obtain ⟨_, _, hs0, hs1, h3⟩ := num_sz (chk_num hc)
  have hsz := sz_cases h3
  omega
theorem cut_no {s c i : Int} {m : Nat} (hi : ¬ (0 ≤ i ∧ i < (m : Int))) : cutP s c m i = (0, 0) := by unfold cutP; rw [if_neg hi]
theorem cut_yes {s c i : Int} {m : Nat} (hi : 0 ≤ i ∧ i < (m : Int)) : cutP s c m i = (i * c, min ((i + 1) * c) s) := by unfold cutP; rw [if_pos hi]
set_option maxHeartbeats 1600000 in
set_option maxRecDepth 100000 in
theorem bcut_any (v s c i : Int) (h t : ByteArray) (a : Option Addr) (n k : Nat) (l : List ByteArray) (w : World) (hP : PA w a n k l) (hK : KIs w) :
    Calls Tryd.prog 17 #[.agg #[.int .i64 v, .int .i64 s, .int .i64 c, .string h, .string t, .slice a n k], .int .i64 i] w fun e w' => e = .returned (.tuple #[.int .i64 (cutP s c (cnM v s c h t l) i).1, .int .i64 (cutP s c (cnM v s c h t l) i).2]) ∧ Below w.heap.size w w' := by
  have h1 := Box.mk fun w' (hx : Below w.heap.size w w') => bcount_any v s c h t a n k l w' (hP.here hx) (hK.below hx hK.lt)
  have hf := Box.mk fun hx => chk_sz (cn_pos (v := v) (s := s) (c := c) (h := h) (t := t) (l := l) hx)
  have hm2 := Box.mk fun hx => (cn_yes (cn_pos (v := v) (s := s) (c := c) (h := h) (t := t) (l := l) hx)).2.2
  obtain ⟨m, hm⟩ : ∃ m, cnM v s c h t l = m := ⟨_, rfl⟩
  rw [hm] at h1 hf hm2 ⊢
  clear hm hP hK
  have hc := fun w' h64 h1024 h0 h128 hs hs1 => ucut_any v s c i h t a n k w' h64 h1024 h0 h128 hs hs1
  replace hc := Box.mk hc
  have hb := bel_alloc w (.cells #[.int .i64 v, .int .i64 s, .int .i64 c, .string h, .string t, .slice a n k] 25)
  have hA := BAt.new w v s c h t (.slice a n k)
  obtain ⟨w1, hw1⟩ : ∃ W, w.alloc (.cells #[.int .i64 v, .int .i64 s, .int .i64 c, .string h, .string t, .slice a n k] 25) = W := ⟨_, rfl⟩
  rw [hw1] at hb hA
  obtain ⟨b, hbe⟩ : ∃ b, w.heap.size = b := ⟨_, rfl⟩
  rw [hbe] at hA
  obtain ⟨q0, q1, q2, q3, q4, q5⟩ := hA.cells
  replace hb := Box.mk hb
  replace hA := Box.mk hA
  by_cases hi : 0 ≤ i ∧ i < (m : Int)
  · rw [cut_yes hi]
    obtain ⟨hi0, hi1⟩ := hi
    obtain ⟨s0, s1, c0, c1⟩ := hf.out (by omega)
    have := hm2.out (by omega)
    have h2 := h1.out w1 hb.out
    have h3 := Box.mk fun w' => hc.out w' c0 c1 hi0 (by omega) (by omega) s1
    obtain ⟨X, hX⟩ : ∃ X, i * c = X := ⟨_, rfl⟩
    obtain ⟨Y, hY⟩ : ∃ Y, min ((i + 1) * c) s = Y := ⟨_, rfl⟩
    rw [hX, hY] at h3 ⊢
    clear hX hY h1 hc
    have hn1 : ¬ i < 0 := by omega
    have hn2 : ¬ i ≥ (m : Int) := by omega
    go_enter Tryd.func17, Tryd.ntmps17
    go_wp2_with fail
    refine h2.mono ?_
    clear h2
    rintro e w2 ⟨rfl, hb2⟩
    replace hA := Box.mk (hA.out.here hb2)
    replace hb := Box.mk (mono_bel hb.out hb2 (Nat.le_refl _))
    clear hb2 q0 q1 q2 q3 q4 q5
    try clear hw1
    obtain ⟨q0, q1, q2, q3, q4, q5⟩ := hA.out.cells
    replace h3 := h3.out w2
    go_wp2_with fail
    refine h3.mono ?_
    clear h3
    rintro e w3 ⟨rfl, hb2⟩
    replace hA := Box.mk (hA.out.here hb2)
    replace hb := Box.mk (mono_bel hb.out hb2 (Nat.le_refl _))
    clear hb2 q0 q1 q2 q3 q4 q5
    try clear hw1
    obtain ⟨q0, q1, q2, q3, q4, q5⟩ := hA.out.cells
    go_wp2_with fail
    go_returns
    exact ⟨rfl, by first | exact hb.out | exact hbe ▸ hb.out⟩
  · rw [cut_no hi]
    clear hc
    by_cases hi0 : i < 0
    · clear hi
      go_enter Tryd.func17, Tryd.ntmps17
      go_wp2_with fail
      go_returns
      exact ⟨rfl, by first | exact hb.out | exact hbe ▸ hb.out⟩
    · have hn2 : i ≥ (m : Int) := by omega
      have h2 := h1.out w1 hb.out
      clear hi h1
      go_enter Tryd.func17, Tryd.ntmps17
      go_wp2_with fail
      refine h2.mono ?_
      clear h2
      rintro e w2 ⟨rfl, hb2⟩
      replace hA := Box.mk (hA.out.here hb2)
      replace hb := Box.mk (mono_bel hb.out hb2 (Nat.le_refl _))
      clear hb2 q0 q1 q2 q3 q4 q5
      try clear hw1
      obtain ⟨q0, q1, q2, q3, q4, q5⟩ := hA.out.cells
      go_wp2_with fail
      go_returns
      exact ⟨rfl, by first | exact hb.out | exact hbe ▸ hb.out⟩
set_option maxHeartbeats 1600000 in
set_option maxRecDepth 100000 in
theorem rcut_any (v s c i : Int) (h t : ByteArray) (a : Option Addr) (n k : Nat) (l : List ByteArray) (w : World) (hP : PA w a n k l) (hF : Fit l) :
    Calls Tryd.prog 18 #[.agg #[.int .i64 v, .int .i64 s, .int .i64 c, .string h, .string t, .slice a n k], .int .i64 i] w fun e w' => e = .returned (.tuple #[.int .i64 (cutP s c (cnM v s c h t l) i).1, .int .i64 (cutP s c (cnM v s c h t l) i).2]) ∧ Below w.heap.size w w' := by
  have h1 := Box.mk fun w' (hx : Below w.heap.size w w') => rcount_any v s c h t a n k l w' (hP.here hx) hF
  have hf := Box.mk fun hx => chk_sz (cn_pos (v := v) (s := s) (c := c) (h := h) (t := t) (l := l) hx)
  have hm2 := Box.mk fun hx => (cn_yes (cn_pos (v := v) (s := s) (c := c) (h := h) (t := t) (l := l) hx)).2.2
  obtain ⟨m, hm⟩ : ∃ m, cnM v s c h t l = m := ⟨_, rfl⟩
  rw [hm] at h1 hf hm2 ⊢
  clear hm hP hF
  have hb := bel_alloc w (.cells #[.int .i64 v, .int .i64 s, .int .i64 c, .string h, .string t, .slice a n k] 25)
  have hA := BAt.new w v s c h t (.slice a n k)
  obtain ⟨w1, hw1⟩ : ∃ W, w.alloc (.cells #[.int .i64 v, .int .i64 s, .int .i64 c, .string h, .string t, .slice a n k] 25) = W := ⟨_, rfl⟩
  rw [hw1] at hb hA
  obtain ⟨b, hbe⟩ : ∃ b, w.heap.size = b := ⟨_, rfl⟩
  rw [hbe] at hA
  obtain ⟨q0, q1, q2, q3, q4, q5⟩ := hA.cells
  replace hb := Box.mk hb
  replace hA := Box.mk hA
  by_cases hi : 0 ≤ i ∧ i < (m : Int)
  · rw [cut_yes hi]
    obtain ⟨hi0, hi1⟩ := hi
    obtain ⟨s0, s1, c0, c1⟩ := hf.out (by omega)
    have hm128 := hm2.out (by omega)
    have h2 := h1.out w1 hb.out
    obtain ⟨m0, m1⟩ := mul_le (m := 129) c0 c1 hi0 (by omega) (by omega)
    obtain ⟨m2, m3⟩ := mul_le (i := i + 1) (m := 129) c0 c1 (by omega) (by omega) (by omega)
    obtain ⟨X, hX⟩ : ∃ X, i * c = X := ⟨_, rfl⟩
    obtain ⟨Y, hY⟩ : ∃ Y, (i + 1) * c = Y := ⟨_, rfl⟩
    rw [hX] at m0 m1 ⊢
    rw [hY] at m2 m3 ⊢
    obtain ⟨M, hM⟩ : ∃ M, min Y s = M := ⟨_, rfl⟩
    rw [hM]
    clear h1
    have hn1 : ¬ i < 0 := by omega
    have hn2 : ¬ i ≥ (m : Int) := by omega
    go_enter Tryd.func18, Tryd.ntmps18
    go_wp2_with fail
    refine h2.mono ?_
    clear h2
    rintro e w2 ⟨rfl, hb2⟩
    replace hA := Box.mk (hA.out.here hb2)
    replace hb := Box.mk (mono_bel hb.out hb2 (Nat.le_refl _))
    clear hb2 q0 q1 q2 q3 q4 q5
    try clear hw1
    obtain ⟨q0, q1, q2, q3, q4, q5⟩ := hA.out.cells
    have qA := Box.mk fun w' (hx : Below w2.heap.size w2 w') => (hA.out.here hx).cells
    clear q0 q1 q2 q3 q4 q5
    go_wp2_with fail
    refine region_quiet (fun w' => Below w2.heap.size w2 w') (by kernel_rfl) (by kernel_rfl) (dB _) ?_
    repeat (go_big_quiet_step (first | exact fun _ => rfl | rfl))
    refine quiet_val rfl (.int .i64 c) (fun w' hw' => by obtain ⟨q0, q1, q2, q3, q4, q5⟩ := qA.out w' hw'; go_simp) ?_
    simp only [Act.put, List.setIfInBounds_toArray, List.set_cons_succ, List.set_cons_zero]
    repeat (go_big_quiet_step (first | exact fun _ => rfl | rfl))
    refine quiet_val rfl (.int .i64 c) (fun w' hw' => by obtain ⟨q0, q1, q2, q3, q4, q5⟩ := qA.out w' hw'; go_simp) ?_
    simp only [Act.put, List.setIfInBounds_toArray, List.set_cons_succ, List.set_cons_zero]
    repeat (go_big_quiet_step (first | exact fun _ => rfl | rfl))
    refine quiet_val rfl (.int .i64 s) (fun w' hw' => by obtain ⟨q0, q1, q2, q3, q4, q5⟩ := qA.out w' hw'; go_simp) ?_
    simp only [Act.put, List.setIfInBounds_toArray, List.set_cons_succ, List.set_cons_zero]
    repeat (go_big_quiet_step (first | exact fun _ => rfl | rfl))
    refine wpQuiet_nil ?_
    intro w3 hb2
    replace hb := Box.mk (mono_bel hb.out hb2 (Nat.le_refl _))
    go_wp2_with fail
    go_returns
    exact ⟨rfl, by first | exact hb.out | exact hbe ▸ hb.out⟩
  · rw [cut_no hi]
    by_cases hi0 : i < 0
    · clear hi
      go_enter Tryd.func18, Tryd.ntmps18
      go_wp2_with fail
      go_returns
      exact ⟨rfl, by first | exact hb.out | exact hbe ▸ hb.out⟩
    · have hn2 : i ≥ (m : Int) := by omega
      have h2 := h1.out w1 hb.out
      clear hi h1
      go_enter Tryd.func18, Tryd.ntmps18
      go_wp2_with fail
      refine h2.mono ?_
      clear h2
      rintro e w2 ⟨rfl, hb2⟩
      replace hA := Box.mk (hA.out.here hb2)
      replace hb := Box.mk (mono_bel hb.out hb2 (Nat.le_refl _))
      clear hb2 q0 q1 q2 q3 q4 q5
      try clear hw1
      obtain ⟨q0, q1, q2, q3, q4, q5⟩ := hA.out.cells
      go_wp2_with fail
      go_returns
      exact ⟨rfl, by first | exact hb.out | exact hbe ▸ hb.out⟩
end Go.Proofs.YtdnhpldcnmbncaaDoor.Bi

namespace Go.Proofs.YtdnhpldcnmbncaaDoor.Bi
open Go Go.RowKit Go.Proofs.YtdnhpldcnmbncaaDoor
set_option linter.all false

theorem region_sC {P : Program} (B C : World → Prop) (R : World → World → Prop) {id : Nat} {Q : Exit → Act → World → Prop} {a : Act} {w : World} {l : List Oper} (hm : P.follows .mixedOrders = true) (hC : C w.drew)
    (h : anyS P .any l.toArray B R (Q .normal) l.length (Array.replicate l.length false) a C) : (Code.region id l.toArray true).wp P Q a w := by
  refine wp_region_any hm ?_
  have h2 := any_of_S (fun _ _ h => h) _ _ _ _ _ hC h
  simpa using h2
theorem stE {B C : World → Prop} (h : ∀ w, C w → B w) : St B (fun w w' => w = w') C := ⟨h, fun _ _ hC e => e ▸ hC⟩
theorem rsumone (s : ByteArray) (w : World) (hs : s.size ≤ 140737488354800) :
    Calls Tryd.prog 33 #[.slice (some ⟨w.heap.size, 0, none⟩) 1 1] (w.alloc (.cells #[.string s] 9)) fun e w' => e = .returned (.string (hashOf s.data.toList)) ∧ Below w.heap.size w w' := by
  have hW := (Below.refl w.heap.size w).alloc (Nat.le_refl _) (.cells #[.string s] 9)
  have hS := rsum_parts (.slice (some ⟨w.heap.size, 0, none⟩) 1 1) [s] (w.alloc (.cells #[.string s] 9)) ⟨some ⟨w.heap.size, 0, none⟩, 1, rfl, fun _ => ⟨w.heap.size, 0, rfl, by simp, fun i hi => by
    obtain rfl : i = 0 := by simpa using hi
    rw [World.cell?_alloc_at _ _ _ _ rfl]; rfl⟩⟩ (by rw [flat_one, data_len]; exact hs) (by simp)
  rw [flat_one] at hS
  exact hS.mono fun e w' h => ⟨h.1, mono_bel hW h.2 (Nat.le_refl _)⟩
/-- What Whole answers. -/
def whoI (v s c : Int) (h t : ByteArray) (l : List ByteArray) (x : ByteArray) : Int := if chkB v s c h t l then (if (x.size : Int) = s then (if hashOf x.data.toList = h then 0 else 10) else 4) else 1
theorem who_bad {v s c : Int} {h t : ByteArray} {l : List ByteArray} {x : ByteArray} (hc : chkB v s c h t l = false) : whoI v s c h t l x = 1 := by unfold whoI; rw [hc]; rfl
theorem who_long {v s c : Int} {h t : ByteArray} {l : List ByteArray} {x : ByteArray} (hc : chkB v s c h t l = true) (hx : ¬ (x.size : Int) = s) : whoI v s c h t l x = 4 := by unfold whoI; rw [hc, if_pos rfl, if_neg hx]
theorem who_hash {v s c : Int} {h t : ByteArray} {l : List ByteArray} {x : ByteArray} (hc : chkB v s c h t l = true) (hx : (x.size : Int) = s) (hh : ¬ hashOf x.data.toList = h) : whoI v s c h t l x = 10 := by unfold whoI; rw [hc, if_pos rfl, if_pos hx, if_neg hh]
theorem who_ok {v s c : Int} {h t : ByteArray} {l : List ByteArray} {x : ByteArray} (hc : chkB v s c h t l = true) (hx : (x.size : Int) = s) (hh : hashOf x.data.toList = h) : whoI v s c h t l x = 0 := by unfold whoI; rw [hc, if_pos rfl, if_pos hx, if_pos hh]
set_option maxHeartbeats 1600000 in
set_option maxRecDepth 100000 in
theorem whole_any (v s c : Int) (h t x : ByteArray) (a : Option Addr) (n k : Nat) (l : List ByteArray) (w : World) (hP : PA w a n k l) (hK : KIs w) (hx : x.size ≤ 140737488354800) :
    Calls Tryd.prog 25 #[.agg #[.int .i64 v, .int .i64 s, .int .i64 c, .string h, .string t, .slice a n k], .string x] w fun e w' => e = .returned (.int .i64 (whoI v s c h t l x)) ∧ Below w.heap.size w w' := by
  have h1 := Box.mk fun w' (hx : Below w.heap.size w w') => check_any v s c h t a n k l w' (hP.here hx) (hK.below hx hK.lt)
  have hKB := Box.mk fun w' (hx : Below w.heap.size w w') => (hK.below hx hK.lt : KIs w')
  have hS := Box.mk fun w' hK' => sum_one x w' hK' (by omega)
  unfold chkI at h1
  have hbad := Box.mk fun hc => who_bad (v := v) (s := s) (c := c) (h := h) (t := t) (l := l) (x := x) hc
  have hlong := Box.mk fun hc hx => who_long (v := v) (s := s) (c := c) (h := h) (t := t) (l := l) (x := x) hc hx
  have hhash := Box.mk fun hc hx hh => who_hash (v := v) (s := s) (c := c) (h := h) (t := t) (l := l) (x := x) hc hx hh
  have hok := Box.mk fun hc hx hh => who_ok (v := v) (s := s) (c := c) (h := h) (t := t) (l := l) (x := x) hc hx hh
  obtain ⟨H, hH⟩ : ∃ H, hashOf x.data.toList = H := ⟨_, rfl⟩
  rw [hH] at hhash hok hS
  obtain ⟨Z, hZ⟩ : ∃ Z, whoI v s c h t l x = Z := ⟨_, rfl⟩
  rw [hZ] at hbad hlong hhash hok ⊢
  obtain ⟨B, hB⟩ : ∃ B, chkB v s c h t l = B := ⟨_, rfl⟩
  rw [hB] at h1 hbad hlong hhash hok
  clear hB hZ hH hP hK
  have hb := bel_alloc w (.cells #[.int .i64 v, .int .i64 s, .int .i64 c, .string h, .string t, .slice a n k] 25)
  have hA := BAt.new w v s c h t (.slice a n k)
  obtain ⟨w1, hw1⟩ : ∃ W, w.alloc (.cells #[.int .i64 v, .int .i64 s, .int .i64 c, .string h, .string t, .slice a n k] 25) = W := ⟨_, rfl⟩
  rw [hw1] at hb hA
  obtain ⟨b, hbe⟩ : ∃ b, w.heap.size = b := ⟨_, rfl⟩
  rw [hbe] at hA
  obtain ⟨q0, q1, q2, q3, q4, q5⟩ := hA.cells
  replace hb := Box.mk hb
  replace hA := Box.mk hA
  have h2 := h1.out w1 hb.out
  clear h1
  go_enter Tryd.func25, Tryd.ntmps25
  cases B
  · replace hbad := Box.mk (hbad.out rfl)
    clear hlong hhash hok
    rw [if_neg (by decide)] at h2
    go_wp2_with fail
    refine h2.mono ?_
    clear h2
    rintro e w2 ⟨rfl, hb2⟩
    replace hA := Box.mk (hA.out.here hb2)
    replace hb := Box.mk (mono_bel hb.out hb2 (Nat.le_refl _))
    clear hb2 q0 q1 q2 q3 q4 q5
    try clear hw1
    obtain ⟨q0, q1, q2, q3, q4, q5⟩ := hA.out.cells
    go_wp2_with fail
    go_ret
    exact ⟨by rw [hbad.out]; rfl, by first | exact hb.out | exact hbe ▸ hb.out⟩
  · rw [if_pos rfl] at h2
    replace hlong := Box.mk (hlong.out rfl)
    replace hhash := Box.mk (hhash.out rfl)
    replace hok := Box.mk (hok.out rfl)
    clear hbad
    go_wp2_with fail
    refine h2.mono ?_
    clear h2
    rintro e w2 ⟨rfl, hb2⟩
    replace hA := Box.mk (hA.out.here hb2)
    replace hb := Box.mk (mono_bel hb.out hb2 (Nat.le_refl _))
    clear hb2 q0 q1 q2 q3 q4 q5
    try clear hw1
    obtain ⟨q0, q1, q2, q3, q4, q5⟩ := hA.out.cells
    by_cases hxs : (x.size : Int) = s
    · have hq : ((x.size : Int) != s) = false := by simpa using hxs
      have qA := Box.mk fun w' (hx : Below w2.heap.size w2 w') => (hA.out.here hx).cells
      clear q0 q2 q3 q4 q5
      go_wp2_with fail
      refine region_sC (fun w' => Below w2.heap.size w2 w') (fun w' => Below w2.heap.size w2 w') (fun w w' => w = w') rfl (dB w2) ?_
      refine anyS_calms [0, 3, 4] 3 rfl (fun _ => rfl) (stE fun _ h => h) (by kernel_rfl) (by kernel_rfl) (by kernel_rfl) ?_
      simp [nth]
      try simp only [Act.put, List.setIfInBounds_toArray, List.set_cons_succ, List.set_cons_zero]
      repeat (go_big_quiet_step (first | exact fun _ => rfl | rfl))
      refine quiet_val rfl (.string h) (fun w' hw' => by obtain ⟨q0, q1, q2, q3, q4, q5⟩ := qA.out w' hw'; go_simp) ?_
      simp only [Act.put, List.setIfInBounds_toArray, List.set_cons_succ, List.set_cons_zero]
      repeat (go_big_quiet_step (first | exact fun _ => rfl | rfl))
      refine wpQuiet_nil ?_
      have hbW := Box.mk fun w' (hx : Below w2.heap.size w2 w') => (mono_bel hb.out hx (Nat.le_refl _) : Below w.heap.size w w')
      replace hhash := Box.mk (hhash.out hxs)
      replace hok := Box.mk (hok.out hxs)
      refine anyS_forced 1 (by kernel_rfl) rfl rfl (fun wa hWa K hK => ?_)
      have hcall := Box.mk (hS.out wa (hKB.out wa (hbW.out wa hWa)))
      have hWa2 := Box.mk (fun w' (hx : Below wa.heap.size wa w') => (mono_bel hWa hx (Nat.le_refl _) : Below w2.heap.size w2 w'))
      go_simp
      refine hK _ _ (fun w' => w' = wa.alloc (.cells #[.string x] 9)) (stE fun w' e => e ▸ hWa2.out _ (bel_alloc _ _)) rfl ?_
      clear hK K
      refine anyS_forced 2 (by kernel_rfl) rfl rfl (fun wc hWc K hK => ?_)
      subst hWc
      have hF := hcall.out
      go_simp
      refine hF.mono ?_
      rintro e wd ⟨rfl, hbd⟩
      have hb8 := Box.mk (hWa2.out wd hbd)
      refine hK _ _ (fun w' => w' = wd) (stE fun w' e => e ▸ hb8.out) rfl ?_
      clear hK K hF hbd hcall hWa hWa2
      have hb9 := Box.mk (hbW.out wd hb8.out)
      by_cases hHh : H = h
      · have heq : (H.toList == h.toList) = true := by rw [eqT, decide_eq_true hHh]
        replace hok := Box.mk (hok.out hHh)
        refine anyS_calms [5] 0 rfl (fun _ => rfl) (stE fun w' e => e ▸ hb8.out) (by kernel_rfl) (by kernel_rfl) (by kernel_rfl) ?_
        simp [nth]
        try simp only [Act.put, List.setIfInBounds_toArray, List.set_cons_succ, List.set_cons_zero]
        repeat (go_big_quiet_step (first | exact fun _ => rfl | rfl))
        refine wpQuiet_nil ?_
        refine anyS_done (by kernel_rfl) ?_
        rintro w9 rfl
        go_wp2_with fail
        go_ret
        exact ⟨by rw [hok.out]; rfl, by first | exact hb9.out | exact hbe ▸ hb9.out⟩
      · have heq : (H.toList == h.toList) = false := by rw [eqT, decide_eq_false hHh]
        replace hhash := Box.mk (hhash.out hHh)
        refine anyS_calms [5] 0 rfl (fun _ => rfl) (stE fun w' e => e ▸ hb8.out) (by kernel_rfl) (by kernel_rfl) (by kernel_rfl) ?_
        simp [nth]
        try simp only [Act.put, List.setIfInBounds_toArray, List.set_cons_succ, List.set_cons_zero]
        repeat (go_big_quiet_step (first | exact fun _ => rfl | rfl))
        refine wpQuiet_nil ?_
        refine anyS_done (by kernel_rfl) ?_
        rintro w9 rfl
        go_wp2_with fail
        go_ret
        exact ⟨by rw [hhash.out]; rfl, by first | exact hb9.out | exact hbe ▸ hb9.out⟩
    · have hq : ((x.size : Int) != s) = true := by simpa using hxs
      replace hlong := Box.mk (hlong.out hxs)
      clear hhash hok
      go_wp2_with fail
      go_ret
      exact ⟨by rw [hlong.out]; rfl, by first | exact hb.out | exact hbe ▸ hb.out⟩
set_option maxHeartbeats 1600000 in
set_option maxRecDepth 100000 in
theorem rwhole_any (v s c : Int) (h t x : ByteArray) (a : Option Addr) (n k : Nat) (l : List ByteArray) (w : World) (hP : PA w a n k l) (hF : Fit l) (hx : x.size ≤ 140737488354800) :
    Calls Tryd.prog 26 #[.agg #[.int .i64 v, .int .i64 s, .int .i64 c, .string h, .string t, .slice a n k], .string x] w fun e w' => e = .returned (.int .i64 (whoI v s c h t l x)) ∧ Below w.heap.size w w' := by
  have h1 := Box.mk fun w' (hx : Below w.heap.size w w') => rcheck_any v s c h t a n k l w' (hP.here hx) hF
  have hS := Box.mk fun w' => rsumone x w' (by omega)
  unfold chkI at h1
  have hbad := Box.mk fun hc => who_bad (v := v) (s := s) (c := c) (h := h) (t := t) (l := l) (x := x) hc
  have hlong := Box.mk fun hc hx => who_long (v := v) (s := s) (c := c) (h := h) (t := t) (l := l) (x := x) hc hx
  have hhash := Box.mk fun hc hx hh => who_hash (v := v) (s := s) (c := c) (h := h) (t := t) (l := l) (x := x) hc hx hh
  have hok := Box.mk fun hc hx hh => who_ok (v := v) (s := s) (c := c) (h := h) (t := t) (l := l) (x := x) hc hx hh
  obtain ⟨H, hH⟩ : ∃ H, hashOf x.data.toList = H := ⟨_, rfl⟩
  rw [hH] at hhash hok hS
  obtain ⟨Z, hZ⟩ : ∃ Z, whoI v s c h t l x = Z := ⟨_, rfl⟩
  rw [hZ] at hbad hlong hhash hok ⊢
  obtain ⟨B, hB⟩ : ∃ B, chkB v s c h t l = B := ⟨_, rfl⟩
  rw [hB] at h1 hbad hlong hhash hok
  clear hB hZ hH hP hF
  have hb := bel_alloc w (.cells #[.int .i64 v, .int .i64 s, .int .i64 c, .string h, .string t, .slice a n k] 25)
  have hA := BAt.new w v s c h t (.slice a n k)
  obtain ⟨w1, hw1⟩ : ∃ W, w.alloc (.cells #[.int .i64 v, .int .i64 s, .int .i64 c, .string h, .string t, .slice a n k] 25) = W := ⟨_, rfl⟩
  rw [hw1] at hb hA
  obtain ⟨b, hbe⟩ : ∃ b, w.heap.size = b := ⟨_, rfl⟩
  rw [hbe] at hA
  obtain ⟨q0, q1, q2, q3, q4, q5⟩ := hA.cells
  replace hb := Box.mk hb
  replace hA := Box.mk hA
  have h2 := h1.out w1 hb.out
  clear h1
  go_enter Tryd.func26, Tryd.ntmps26
  cases B
  · replace hbad := Box.mk (hbad.out rfl)
    clear hlong hhash hok
    rw [if_neg (by decide)] at h2
    go_wp2_with fail
    refine h2.mono ?_
    clear h2
    rintro e w2 ⟨rfl, hb2⟩
    replace hA := Box.mk (hA.out.here hb2)
    replace hb := Box.mk (mono_bel hb.out hb2 (Nat.le_refl _))
    clear hb2 q0 q1 q2 q3 q4 q5
    try clear hw1
    obtain ⟨q0, q1, q2, q3, q4, q5⟩ := hA.out.cells
    go_wp2_with fail
    go_ret
    exact ⟨by rw [hbad.out]; rfl, by first | exact hb.out | exact hbe ▸ hb.out⟩
  · rw [if_pos rfl] at h2
    replace hlong := Box.mk (hlong.out rfl)
    replace hhash := Box.mk (hhash.out rfl)
    replace hok := Box.mk (hok.out rfl)
    clear hbad
    go_wp2_with fail
    refine h2.mono ?_
    clear h2
    rintro e w2 ⟨rfl, hb2⟩
    replace hA := Box.mk (hA.out.here hb2)
    replace hb := Box.mk (mono_bel hb.out hb2 (Nat.le_refl _))
    clear hb2 q0 q1 q2 q3 q4 q5
    try clear hw1
    obtain ⟨q0, q1, q2, q3, q4, q5⟩ := hA.out.cells
    by_cases hxs : (x.size : Int) = s
    · have hq : ((x.size : Int) != s) = false := by simpa using hxs
      have qA := Box.mk fun w' (hx : Below w2.heap.size w2 w') => (hA.out.here hx).cells
      clear q0 q2 q3 q4 q5
      go_wp2_with fail
      refine region_sC (fun w' => Below w2.heap.size w2 w') (fun w' => Below w2.heap.size w2 w') (fun w w' => w = w') rfl (dB w2) ?_
      refine anyS_calms [0, 3, 4] 4 rfl (fun _ => rfl) (stE fun _ h => h) (by kernel_rfl) (by kernel_rfl) (by kernel_rfl) ?_
      simp [nth]
      try simp only [Act.put, List.setIfInBounds_toArray, List.set_cons_succ, List.set_cons_zero]
      repeat (go_big_quiet_step (first | exact fun _ => rfl | rfl))
      refine quiet_val rfl (.string h) (fun w' hw' => by obtain ⟨q0, q1, q2, q3, q4, q5⟩ := qA.out w' hw'; go_simp) ?_
      simp only [Act.put, List.setIfInBounds_toArray, List.set_cons_succ, List.set_cons_zero]
      repeat (go_big_quiet_step (first | exact fun _ => rfl | rfl))
      refine wpQuiet_nil ?_
      have hbW := Box.mk fun w' (hx : Below w2.heap.size w2 w') => (mono_bel hb.out hx (Nat.le_refl _) : Below w.heap.size w w')
      replace hhash := Box.mk (hhash.out hxs)
      replace hok := Box.mk (hok.out hxs)
      refine anyS_forced 1 (by kernel_rfl) rfl rfl (fun wa hWa K hK => ?_)
      have hcall := Box.mk (hS.out wa)
      have hWa2 := Box.mk (fun w' (hx : Below wa.heap.size wa w') => (mono_bel hWa hx (Nat.le_refl _) : Below w2.heap.size w2 w'))
      go_simp
      refine hK _ _ (fun w' => w' = wa.alloc (.cells #[.string x] 9)) (stE fun w' e => e ▸ hWa2.out _ (bel_alloc _ _)) rfl ?_
      clear hK K
      refine anyS_forced 2 (by kernel_rfl) rfl rfl (fun wc hWc K hK => ?_)
      subst hWc
      have hF := hcall.out
      go_simp
      refine hF.mono ?_
      rintro e wd ⟨rfl, hbd⟩
      have hb8 := Box.mk (hWa2.out wd hbd)
      refine hK _ _ (fun w' => w' = wd) (stE fun w' e => e ▸ hb8.out) rfl ?_
      clear hK K hF hbd hcall hWa hWa2
      have hb9 := Box.mk (hbW.out wd hb8.out)
      by_cases hHh : H = h
      · have heq : (H.toList == h.toList) = true := by rw [eqT, decide_eq_true hHh]
        replace hok := Box.mk (hok.out hHh)
        refine anyS_calms [5, 6] 0 rfl (fun _ => rfl) (stE fun w' e => e ▸ hb8.out) (by kernel_rfl) (by kernel_rfl) (by kernel_rfl) ?_
        simp [nth]
        try simp only [Act.put, List.setIfInBounds_toArray, List.set_cons_succ, List.set_cons_zero]
        repeat (go_big_quiet_step (first | exact fun _ => rfl | rfl))
        refine wpQuiet_nil ?_
        refine anyS_done (by kernel_rfl) ?_
        rintro w9 rfl
        go_wp2_with fail
        go_ret
        exact ⟨by rw [hok.out]; rfl, by first | exact hb9.out | exact hbe ▸ hb9.out⟩
      · have heq : (H.toList == h.toList) = false := by rw [eqT, decide_eq_false hHh]
        replace hhash := Box.mk (hhash.out hHh)
        refine anyS_calms [5, 6] 0 rfl (fun _ => rfl) (stE fun w' e => e ▸ hb8.out) (by kernel_rfl) (by kernel_rfl) (by kernel_rfl) ?_
        simp [nth]
        try simp only [Act.put, List.setIfInBounds_toArray, List.set_cons_succ, List.set_cons_zero]
        repeat (go_big_quiet_step (first | exact fun _ => rfl | rfl))
        refine wpQuiet_nil ?_
        refine anyS_done (by kernel_rfl) ?_
        rintro w9 rfl
        go_wp2_with fail
        go_ret
        exact ⟨by rw [hhash.out]; rfl, by first | exact hb9.out | exact hbe ▸ hb9.out⟩
    · have hq : ((x.size : Int) != s) = true := by simpa using hxs
      replace hlong := Box.mk (hlong.out hxs)
      clear hhash hok
      go_wp2_with fail
      go_ret
      exact ⟨by rw [hlong.out]; rfl, by first | exact hb.out | exact hbe ▸ hb.out⟩
/-- What Fits answers. -/
def fitI (v s c : Int) (h t : ByteArray) (l : List ByteArray) (i : Int) (x : ByteArray) : Int :=
  if l.length ≠ 0 ∧ (0 ≤ i ∧ i < (cnM v s c h t l : Int)) then (if (x.size : Int) = min ((i + 1) * c) s - i * c then (if leafH x = l.getD i.toNat ByteArray.empty then 0 else 10) else 4) else 1
theorem fit_eq (v s c : Int) (h t : ByteArray) (l : List ByteArray) (i : Int) (x : ByteArray) : fitI v s c h t l i x = 
  if l.length ≠ 0 ∧ (0 ≤ i ∧ i < (cnM v s c h t l : Int)) then (if (x.size : Int) = min ((i + 1) * c) s - i * c then (if leafH x = l.getD i.toNat ByteArray.empty then 0 else 10) else 4) else 1 := rfl
theorem chk_len {v s c : Int} {h t : ByteArray} {l : List ByteArray} (hc : chkB v s c h t l = true) (h0 : l.length ≠ 0) : l.length = cnM v s c h t l ∧ rootL l = t ∧ ∀ x ∈ l, x.size = 32 := by
  have hn := (cn_yes hc).1
  unfold chkB lstB at hc
  simp only [Bool.and_eq_true, Bool.or_eq_true, decide_eq_true_eq, List.isEmpty_iff, List.all_eq_true] at hc
  rcases hc.2.2.2 with h1 | h1
  · exact absurd (by rw [h1]; rfl) h0
  · exact ⟨by omega, h1.2.2, h1.2.1⟩
set_option maxHeartbeats 1600000 in
set_option maxRecDepth 100000 in
theorem fits_any (v s c i : Int) (h t x : ByteArray) (a : Option Addr) (n k : Nat) (l : List ByteArray) (w : World) (hP : PA w a n k l) (hK : KIs w) (hx : x.size ≤ 140737488354000) :
    Calls Tryd.prog 23 #[.agg #[.int .i64 v, .int .i64 s, .int .i64 c, .string h, .string t, .slice a n k], .int .i64 i, .string x] w fun e w' => e = .returned (.int .i64 (fitI v s c h t l i x)) ∧ Below w.heap.size w w' := by
  have hsh := Box.mk fun w' => short_any v s c h t a n k w'
  have hct := Box.mk fun w' (hx : Below w.heap.size w w') => bcount_any v s c h t a n k l w' (hP.here hx) (hK.below hx hK.lt)
  have hLf := Box.mk fun w' (hy : Below w.heap.size w w') => tleaf_any x w' (hK.below hy hK.lt) (by omega)
  have hf := Box.mk fun hx => chk_sz (cn_pos (v := v) (s := s) (c := c) (h := h) (t := t) (l := l) hx)
  have hm2 := Box.mk fun hx => (cn_yes (cn_pos (v := v) (s := s) (c := c) (h := h) (t := t) (l := l) hx)).2.2
  have hln := Box.mk fun hx h0 => (chk_len (cn_pos (v := v) (s := s) (c := c) (h := h) (t := t) (l := l) hx) h0).1
  have hcut := Box.mk fun w' h64 h1024 h0 h128 hs hs1 => ucut_any v s c i h t a n k w' h64 h1024 h0 h128 hs hs1
  have hPB := Box.mk fun w' (hx : Below w.heap.size w w') => hP.here hx
  have hlen := Box.mk hP.len
  have hcap := hP.cap
  have htop := hP.top
  have hZB := Box.mk (fit_eq v s c h t l i x)
  obtain ⟨m, hm⟩ : ∃ m, cnM v s c h t l = m := ⟨_, rfl⟩
  rw [hm] at hct hf hm2 hln hZB
  rw [hlen.out] at hZB
  obtain ⟨Z, hZ⟩ : ∃ Z, fitI v s c h t l i x = Z := ⟨_, rfl⟩
  have hZC := Box.mk hZ
  rw [hZ]
  clear hm hZ hP hK
  have hb := bel_alloc w (.cells #[.int .i64 v, .int .i64 s, .int .i64 c, .string h, .string t, .slice a n k] 25)
  have hA := BAt.new w v s c h t (.slice a n k)
  obtain ⟨w1, hw1⟩ : ∃ W, w.alloc (.cells #[.int .i64 v, .int .i64 s, .int .i64 c, .string h, .string t, .slice a n k] 25) = W := ⟨_, rfl⟩
  rw [hw1] at hb hA
  obtain ⟨b, hbe⟩ : ∃ b, w.heap.size = b := ⟨_, rfl⟩
  rw [hbe] at hA
  obtain ⟨q0, q1, q2, q3, q4, q5⟩ := hA.cells
  replace hb := Box.mk hb
  replace hA := Box.mk hA
  have h2 := hsh.out w1
  clear hsh
  go_enter Tryd.func23, Tryd.ntmps23
  go_wp2_with fail
  refine h2.mono ?_
  clear h2
  rintro e w2 ⟨rfl, hb2⟩
  replace hA := Box.mk (hA.out.here hb2)
  replace hb := Box.mk (mono_bel hb.out hb2 (Nat.le_refl _))
  clear hb2 q0 q1 q2 q3 q4 q5
  try clear hw1
  obtain ⟨q0, q1, q2, q3, q4, q5⟩ := hA.out.cells
  by_cases hn0 : n = 0
  · have hd : decide (n = 0) = true := by simpa using hn0
    have hZ1 : Box (Z = 1) := ⟨by rw [← hZC.out, hZB.out, if_neg (fun h => h.1 hn0)]⟩
    rw [hd]
    clear hn0
    go_wp2_with fail
    go_ret
    exact ⟨by rw [hZ1.out]; rfl, by first | exact hb.out | exact hbe ▸ hb.out⟩
  have hd : decide (n = 0) = false := by simpa using hn0
  rw [hd]
  clear hd
  by_cases hi0 : i < 0
  · have hZ1 : Box (Z = 1) := ⟨by rw [← hZC.out, hZB.out, if_neg (fun h => by omega)]⟩
    go_wp2_with fail
    go_ret
    exact ⟨by rw [hZ1.out]; rfl, by first | exact hb.out | exact hbe ▸ hb.out⟩
  have h2 := hct.out w2 hb.out
  clear hct
  go_wp2_with fail
  refine h2.mono ?_
  clear h2
  rintro e w3 ⟨rfl, hb2⟩
  replace hA := Box.mk (hA.out.here hb2)
  replace hb := Box.mk (mono_bel hb.out hb2 (Nat.le_refl _))
  clear hb2 q0 q1 q2 q3 q4 q5
  try clear hw1
  obtain ⟨q0, q1, q2, q3, q4, q5⟩ := hA.out.cells
  by_cases hi1 : i ≥ (m : Int)
  · have hZ1 : Box (Z = 1) := ⟨by rw [← hZC.out, hZB.out, if_neg (fun h => by omega)]⟩
    go_wp2_with fail
    go_ret
    exact ⟨by rw [hZ1.out]; rfl, by first | exact hb.out | exact hbe ▸ hb.out⟩
  rw [if_pos (by omega)] at hZB
  rw [hZC.out] at hZB
  obtain ⟨s0, s1, c0, c1⟩ := hf.out (by omega)
  have hm128 := hm2.out (by omega)
  have hnm : n = m := by rw [← hlen.out]; exact hln.out (by omega) (by rw [hlen.out]; omega)
  subst hnm
  have h3 := hcut.out w3 c0 c1 (by omega) (by omega) (by omega) s1
  obtain ⟨m0, m1⟩ := mul_le (i := i) (m := 129) c0 c1 (by omega) (by omega) (by omega)
  obtain ⟨m2, m3⟩ := mul_le (i := i + 1) (m := 129) c0 c1 (by omega) (by omega) (by omega)
  have hMb : -132096 ≤ min ((i + 1) * c) s - i * c ∧ min ((i + 1) * c) s - i * c ≤ 132096 := by omega
  obtain ⟨X, hX⟩ : ∃ X, i * c = X := ⟨_, rfl⟩
  obtain ⟨Y, hY⟩ : ∃ Y, min ((i + 1) * c) s = Y := ⟨_, rfl⟩
  rw [hX, hY] at h3 hZB hMb
  obtain ⟨hMb0, hMb1⟩ := hMb
  obtain ⟨j, rfl⟩ : ∃ j : Nat, i = (j : Int) := ⟨i.toNat, by omega⟩
  have hcell := (hPB.out w3 hb.out).at_ (by omega)
  obtain ⟨blk, off, rfl, hblk, hcell⟩ := hcell
  have hcl := hcell j (by omega)
  rw [Int.toNat_natCast] at hZB
  obtain ⟨y, hy⟩ : ∃ y, l.getD j ByteArray.empty = y := ⟨_, rfl⟩
  rw [hy] at hcl hZB
  have hclB := Box.mk fun w' (hb : Below w3.heap.size w3 w') => (hb.cell (p := ⟨blk, off + j, none⟩) hblk).trans hcl
  have hjn : j < n := by omega
  clear hX hY hy hcell hcl hblk hcut hPB hf hm2 hln m0 m1 m2 m3
  go_wp2_with fail
  refine h3.mono ?_
  clear h3
  rintro e w4 ⟨rfl, hb4⟩
  have hb2 := hb4
  replace hclB := Box.mk fun w' (hb : Below w4.heap.size w4 w') => hclB.out w' (mono_bel hb4 hb (Nat.le_refl _))
  clear hb4
  replace hA := Box.mk (hA.out.here hb2)
  replace hb := Box.mk (mono_bel hb.out hb2 (Nat.le_refl _))
  clear hb2 q0 q1 q2 q3 q4 q5
  try clear hw1
  obtain ⟨q0, q1, q2, q3, q4, q5⟩ := hA.out.cells
  by_cases hxl : (x.size : Int) = Y - X
  · rw [if_pos hxl] at hZB
    have hq : ((x.size : Int) != Y - X) = false := by simpa using hxl
    have qA := Box.mk fun w' (hx : Below w4.heap.size w4 w') => (hA.out.here hx).cells
    have hbW := Box.mk fun w' (hx : Below w4.heap.size w4 w') => (mono_bel hb.out hx (Nat.le_refl _) : Below w.heap.size w w')
    obtain ⟨F, hF⟩ : ∃ F, leafH x = F := ⟨_, rfl⟩
    rw [hF] at hLf hZB
    clear q0 q1 q2 q3 q4 q5 hF hxl
    go_wp2_with fail
    refine region_quiet (fun w' => Below w4.heap.size w4 w') (by kernel_rfl) (by kernel_rfl) (dB _) ?_
    repeat (go_big_quiet_step (first | exact fun _ => rfl | rfl))
    refine quiet_call rfl (.string F) (fun w' hw' => bel_call (hLf.out w' (hbW.out w' hw')) hw') (fun w' _ => by go_simp) ?_
    simp only [Act.put, List.setIfInBounds_toArray, List.set_cons_succ, List.set_cons_zero]
    repeat (go_big_quiet_step (first | exact fun _ => rfl | rfl))
    refine quiet_val rfl (.slice (some ⟨blk, off, none⟩) n k) (fun w' hw' => by obtain ⟨q0, q1, q2, q3, q4, q5⟩ := qA.out w' hw'; go_simp) ?_
    simp only [Act.put, List.setIfInBounds_toArray, List.set_cons_succ, List.set_cons_zero]
    repeat (go_big_quiet_step (first | exact fun _ => rfl | rfl))
    by_cases hFy : F = y
    · have heq : (F.toList == y.toList) = true := by rw [eqT, decide_eq_true hFy]
      rw [if_pos hFy] at hZB
      refine quiet_val rfl (.string y) (fun w' hw' => by have := hclB.out w' hw'; go_simp) ?_
      simp only [Act.put, List.setIfInBounds_toArray, List.set_cons_succ, List.set_cons_zero]
      repeat (go_big_quiet_step (first | exact fun _ => rfl | rfl))
      refine wpQuiet_nil ?_
      intro w5 hw5
      go_wp2_with fail
      go_ret
      exact ⟨by rw [← hZB.out]; rfl, by first | exact hbW.out w5 hw5 | exact hbe ▸ hbW.out w5 hw5⟩
    · have heq : (F.toList == y.toList) = false := by rw [eqT, decide_eq_false hFy]
      rw [if_neg hFy] at hZB
      refine quiet_val rfl (.string y) (fun w' hw' => by have := hclB.out w' hw'; go_simp) ?_
      simp only [Act.put, List.setIfInBounds_toArray, List.set_cons_succ, List.set_cons_zero]
      repeat (go_big_quiet_step (first | exact fun _ => rfl | rfl))
      refine wpQuiet_nil ?_
      intro w5 hw5
      go_wp2_with fail
      go_ret
      exact ⟨by rw [← hZB.out]; rfl, by first | exact hbW.out w5 hw5 | exact hbe ▸ hbW.out w5 hw5⟩
  · rw [if_neg hxl] at hZB
    have hq : ((x.size : Int) != Y - X) = true := by simpa using hxl
    clear hxl
    go_wp2_with fail
    go_ret
    exact ⟨by rw [← hZB.out]; rfl, by first | exact hb.out | exact hbe ▸ hb.out⟩
set_option maxHeartbeats 1600000 in
set_option maxRecDepth 100000 in
theorem rfits_any (v s c i : Int) (h t x : ByteArray) (a : Option Addr) (n k : Nat) (l : List ByteArray) (w : World) (hP : PA w a n k l) (hF : Fit l) (hx : x.size ≤ 140737488354000) :
    Calls Tryd.prog 24 #[.agg #[.int .i64 v, .int .i64 s, .int .i64 c, .string h, .string t, .slice a n k], .int .i64 i, .string x] w fun e w' => e = .returned (.int .i64 (fitI v s c h t l i x)) ∧ Below w.heap.size w w' := by
  have hct := Box.mk fun w' (hx : Below w.heap.size w w') => rcut_any v s c i h t a n k l w' (hP.here hx) hF
  have hLf := Box.mk fun w' => rleaf_any x w' (by omega)
  have hf := Box.mk fun hx => chk_sz (cn_pos (v := v) (s := s) (c := c) (h := h) (t := t) (l := l) hx)
  have hm2 := Box.mk fun hx => (cn_yes (cn_pos (v := v) (s := s) (c := c) (h := h) (t := t) (l := l) hx)).2.2
  have hln := Box.mk fun hx h0 => (chk_len (cn_pos (v := v) (s := s) (c := c) (h := h) (t := t) (l := l) hx) h0).1
  have hPB := Box.mk fun w' (hx : Below w.heap.size w w') => hP.here hx
  have hlen := Box.mk hP.len
  have hcap := hP.cap
  have htop := hP.top
  have hZB := Box.mk (fit_eq v s c h t l i x)
  obtain ⟨m, hm⟩ : ∃ m, cnM v s c h t l = m := ⟨_, rfl⟩
  rw [hm] at hct hf hm2 hln hZB
  rw [hlen.out] at hZB
  obtain ⟨Z, hZ⟩ : ∃ Z, fitI v s c h t l i x = Z := ⟨_, rfl⟩
  have hZC := Box.mk hZ
  rw [hZ]
  clear hm hZ hP hF
  have hb := bel_alloc w (.cells #[.int .i64 v, .int .i64 s, .int .i64 c, .string h, .string t, .slice a n k] 25)
  have hA := BAt.new w v s c h t (.slice a n k)
  obtain ⟨w1, hw1⟩ : ∃ W, w.alloc (.cells #[.int .i64 v, .int .i64 s, .int .i64 c, .string h, .string t, .slice a n k] 25) = W := ⟨_, rfl⟩
  rw [hw1] at hb hA
  obtain ⟨b, hbe⟩ : ∃ b, w.heap.size = b := ⟨_, rfl⟩
  rw [hbe] at hA
  obtain ⟨q0, q1, q2, q3, q4, q5⟩ := hA.cells
  replace hb := Box.mk hb
  replace hA := Box.mk hA
  have h2 := hct.out w1 hb.out
  clear hct
  by_cases hi : 0 ≤ i ∧ i < (m : Int)
  · rw [cut_yes hi] at h2
    obtain ⟨hi0, hi1⟩ := hi
    obtain ⟨s0, s1, c0, c1⟩ := hf.out (by omega)
    have hm128 := hm2.out (by omega)
    obtain ⟨m0, m1⟩ := mul_le (i := i) (m := 129) c0 c1 (by omega) (by omega) (by omega)
    obtain ⟨m2, m3⟩ := mul_le (i := i + 1) (m := 129) c0 c1 (by omega) (by omega) (by omega)
    have hYb : 1 ≤ min ((i + 1) * c) s := by
      have : (i + 1) * c = i * c + c := by rw [Int.add_mul, Int.one_mul]
      omega
    have hMb : -132096 ≤ min ((i + 1) * c) s - i * c ∧ min ((i + 1) * c) s - i * c ≤ 132096 := by omega
    obtain ⟨X, hX⟩ : ∃ X, i * c = X := ⟨_, rfl⟩
    obtain ⟨Y, hY⟩ : ∃ Y, min ((i + 1) * c) s = Y := ⟨_, rfl⟩
    dsimp only at h2
    rw [hX, hY] at h2 hZB hMb
    rw [hY] at hYb
    obtain ⟨hMb0, hMb1⟩ := hMb
    have hY0 : (Y == 0) = false := by simp; omega
    clear hX hY m0 m1 m2 m3 hf hm2
    go_enter Tryd.func24, Tryd.ntmps24
    go_wp2_with fail
    refine h2.mono ?_
    clear h2
    rintro e w4 ⟨rfl, hb2⟩
    replace hA := Box.mk (hA.out.here hb2)
    replace hb := Box.mk (mono_bel hb.out hb2 (Nat.le_refl _))
    clear hb2 q0 q1 q2 q3 q4 q5
    try clear hw1
    obtain ⟨q0, q1, q2, q3, q4, q5⟩ := hA.out.cells
    by_cases hn0 : n = 0
    · have hd : ((n : Int) == 0) = true := by rw [hn0]; rfl
      have hZ1 : Box (Z = 1) := ⟨by rw [← hZC.out, hZB.out, if_neg (fun h => h.1 hn0)]⟩
      clear hn0
      go_wp2_with fail
      go_ret
      exact ⟨by rw [hZ1.out]; rfl, by first | exact hb.out | exact hbe ▸ hb.out⟩
    have hd : ((n : Int) == 0) = false := by simp; omega
    rw [if_pos (by omega)] at hZB
    rw [hZC.out] at hZB
    have hnm : n = m := by rw [← hlen.out]; exact hln.out (by omega) (by rw [hlen.out]; omega)
    subst hnm
    obtain ⟨j, rfl⟩ : ∃ j : Nat, i = (j : Int) := ⟨i.toNat, by omega⟩
    have hcell := (hPB.out w4 hb.out).at_ (by omega)
    obtain ⟨blk, off, rfl, hblk, hcell⟩ := hcell
    have hcl := hcell j (by omega)
    rw [Int.toNat_natCast] at hZB
    obtain ⟨y, hy⟩ : ∃ y, l.getD j ByteArray.empty = y := ⟨_, rfl⟩
    rw [hy] at hcl hZB
    have hclB := Box.mk fun w' (hb : Below w4.heap.size w4 w') => (hb.cell (p := ⟨blk, off + j, none⟩) hblk).trans hcl
    have hjn : j < n := by omega
    clear hy hcell hcl hblk hPB hln
    by_cases hxl : (x.size : Int) = Y - X
    · rw [if_pos hxl] at hZB
      have hq : ((x.size : Int) != Y - X) = false := by simpa using hxl
      have qA := Box.mk fun w' (hx : Below w4.heap.size w4 w') => (hA.out.here hx).cells
      have hbW := Box.mk fun w' (hx : Below w4.heap.size w4 w') => (mono_bel hb.out hx (Nat.le_refl _) : Below w.heap.size w w')
      obtain ⟨F, hF⟩ : ∃ F, leafH x = F := ⟨_, rfl⟩
      rw [hF] at hLf hZB
      clear hF hxl
      go_wp2_with fail
      refine region_quiet (fun w' => Below w4.heap.size w4 w') (by kernel_rfl) (by kernel_rfl) (dB _) ?_
      repeat (go_big_quiet_step (first | exact fun _ => rfl | rfl))
      refine quiet_call rfl (.string F) (fun w' hw' => bel_call (hLf.out w') hw') (fun w' _ => by go_simp) ?_
      simp only [Act.put, List.setIfInBounds_toArray, List.set_cons_succ, List.set_cons_zero]
      repeat (go_big_quiet_step (first | exact fun _ => rfl | rfl))
      refine quiet_val rfl (.slice (some ⟨blk, off, none⟩) n k) (fun w' hw' => by obtain ⟨q0, q1, q2, q3, q4, q5⟩ := qA.out w' hw'; go_simp) ?_
      simp only [Act.put, List.setIfInBounds_toArray, List.set_cons_succ, List.set_cons_zero]
      repeat (go_big_quiet_step (first | exact fun _ => rfl | rfl))
      by_cases hFy : F = y
      · have heq : (F.toList == y.toList) = true := by rw [eqT, decide_eq_true hFy]
        rw [if_pos hFy] at hZB
        refine quiet_val rfl (.string y) (fun w' hw' => by have := hclB.out w' hw'; go_simp) ?_
        simp only [Act.put, List.setIfInBounds_toArray, List.set_cons_succ, List.set_cons_zero]
        repeat (go_big_quiet_step (first | exact fun _ => rfl | rfl))
        refine wpQuiet_nil ?_
        intro w5 hw5
        go_wp2_with fail
        go_ret
        exact ⟨by rw [← hZB.out]; rfl, by first | exact hbW.out w5 hw5 | exact hbe ▸ hbW.out w5 hw5⟩
      · have heq : (F.toList == y.toList) = false := by rw [eqT, decide_eq_false hFy]
        rw [if_neg hFy] at hZB
        refine quiet_val rfl (.string y) (fun w' hw' => by have := hclB.out w' hw'; go_simp) ?_
        simp only [Act.put, List.setIfInBounds_toArray, List.set_cons_succ, List.set_cons_zero]
        repeat (go_big_quiet_step (first | exact fun _ => rfl | rfl))
        refine wpQuiet_nil ?_
        intro w5 hw5
        go_wp2_with fail
        go_ret
        exact ⟨by rw [← hZB.out]; rfl, by first | exact hbW.out w5 hw5 | exact hbe ▸ hbW.out w5 hw5⟩
    · rw [if_neg hxl] at hZB
      have hq : ((x.size : Int) != Y - X) = true := by simpa using hxl
      clear hxl
      go_wp2_with fail
      go_ret
      exact ⟨by rw [← hZB.out]; rfl, by first | exact hb.out | exact hbe ▸ hb.out⟩
  · rw [cut_no hi] at h2
    have hZ1 : Box (Z = 1) := ⟨by rw [← hZC.out, hZB.out, if_neg (fun h => hi h.2)]⟩
    dsimp only at h2
    clear hi
    go_enter Tryd.func24, Tryd.ntmps24
    go_wp2_with fail
    refine h2.mono ?_
    clear h2
    rintro e w4 ⟨rfl, hb2⟩
    replace hA := Box.mk (hA.out.here hb2)
    replace hb := Box.mk (mono_bel hb.out hb2 (Nat.le_refl _))
    clear hb2 q0 q1 q2 q3 q4 q5
    try clear hw1
    obtain ⟨q0, q1, q2, q3, q4, q5⟩ := hA.out.cells
    go_wp2_with fail
    go_ret
    exact ⟨by rw [hZ1.out]; rfl, by first | exact hb.out | exact hbe ▸ hb.out⟩
end Go.Proofs.YtdnhpldcnmbncaaDoor.Bi
