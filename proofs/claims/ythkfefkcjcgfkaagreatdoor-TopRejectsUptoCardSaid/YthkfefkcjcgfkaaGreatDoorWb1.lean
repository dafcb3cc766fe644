/- Bills: a model; walks of the program's small functions, of Check and of the document's. | Bills: walks of the document's size, Check, Count, Cut and of the program's Count, Cut. | Bills: cut of the program; Cut, Fits, Whole of both. | Bills: Fits, Whole of both. -/
import Derived.Test.YthkfefkcjcgfkaaGreatDoorWtc
import Derived.Test.YthkfefkcjcgfkaaGreatDoorWb0
import Derived.Test.YthkfefkcjcgfkaaGreatDoorWb5
set_option linter.all false
namespace Go.Proofs.YthkfefkcjcgfkaaGreatDoor.Bi
open Go Go.RowKit Go.Proofs.YthkfefkcjcgfkaaGreatDoor
set_option linter.all false

theorem eqT (a b : ByteArray) : (a.toList == b.toList) = decide (a = b) := by
  rw [ByteArray.toList_eq, ByteArray.toList_eq, Bool.eq_iff_iff]
  simp only [beq_iff_eq, decide_eq_true_eq]
  exact ⟨fun h => ByteArray.ext (Array.ext' h), fun h => by rw [h]⟩
def szB (c : Int) : Bool := c == 64 || (c == 128 || (c == 256 || (c == 512 || c == 1024)))
def numB (v s c : Int) : Bool := decide (1 ≤ v ∧ v ≤ 255) && (decide (1 ≤ s ∧ s ≤ 8192) && szB c)
def cntI (s c : Int) : Int := (s + c - 1) / c
def lstB (s c : Int) (t : ByteArray) (l : List ByteArray) : Bool := l.isEmpty || (decide ((l.length : Int) = cntI s c) && (l.all (fun x => decide (x.size = 32)) && decide (rootL l = t)))
def chkB (v s c : Int) (h t : ByteArray) (l : List ByteArray) : Bool := numB v s c && (decide (h.size = 32) && (decide (t.size = 32) && lstB s c t l))
def chkI (v s c : Int) (h t : ByteArray) (l : List ByteArray) : Int := if chkB v s c h t l then 0 else 1
theorem sz_cases {c : Int} (h : szB c = true) : c = 64 ∨ c = 128 ∨ c = 256 ∨ c = 512 ∨ c = 1024 := by
  simpa [szB] using h
theorem num_sz {v s c : Int} (h : numB v s c = true) : 1 ≤ v ∧ v ≤ 255 ∧ 1 ≤ s ∧ s ≤ 8192 ∧ szB c = true := by
  simp only [numB, Bool.and_eq_true, decide_eq_true_eq] at h
  exact ⟨h.1.1, h.1.2, h.2.1.1, h.2.1.2, h.2.2⟩
/-- How many chunks, of good numbers. -/
theorem cnt_nat {v s c : Int} (h : numB v s c = true) : ∃ n : Nat, cntI s c = (n : Int) ∧ 1 ≤ n ∧ n ≤ 128 ∧ ((n : Int) - 1) * c < s ∧ s ≤ (n : Int) * c := by
  obtain ⟨_, _, h1, h2, h3⟩ := num_sz h
  refine ⟨(cntI s c).toNat, ?_⟩
  unfold cntI
  rcases sz_cases h3 with rfl | rfl | rfl | rfl | rfl <;> omega

set_option maxHeartbeats 800000 in
set_option maxRecDepth 100000 in
theorem within_any (n m : Int) (w : World) :
    Calls Tryz.prog 62 #[.int .i64 n, .int .i64 m] w fun e w' => e = .returned (.bool (decide (1 ≤ n ∧ n ≤ m))) ∧ w' = w := by
  go_enter Tryz.func62, Tryz.ntmps62
  by_cases h1 : 1 ≤ n
  · have h3 : n ≥ 1 := h1
    go_wp2_with fail
    go_ret
    refine ⟨?_, rfl⟩
    by_cases h2 : n ≤ m <;> simp [h1, h2]
  · have h3 : ¬ n ≥ 1 := h1
    go_wp2_with fail
    go_ret
    refine ⟨?_, rfl⟩
    rw [decide_eq_false (fun h => by omega)]
    rfl
set_option maxHeartbeats 800000 in
set_option maxRecDepth 100000 in
theorem goodchunk_any (c : Int) (w : World) :
    Calls Tryz.prog 63 #[.int .i64 c] w fun e w' => e = .returned (.bool (szB c)) ∧ w' = w := by
  obtain ⟨z, hz⟩ : ∃ z, szB c = z := ⟨_, rfl⟩
  have hz2 := Box.mk hz
  rw [hz]
  clear hz
  unfold szB at hz2
  go_enter Tryz.func63, Tryz.ntmps63
  by_cases h1 : c = 64
  · subst h1
    go_wp2_with fail
    go_ret
    exact ⟨by rw [← hz2.out]; rfl, rfl⟩
  by_cases h2 : c = 128
  · subst h2
    go_wp2_with fail
    go_ret
    exact ⟨by rw [← hz2.out]; rfl, rfl⟩
  by_cases h3 : c = 256
  · subst h3
    go_wp2_with fail
    go_ret
    exact ⟨by rw [← hz2.out]; rfl, rfl⟩
  by_cases h4 : c = 512
  · subst h4
    go_wp2_with fail
    go_ret
    exact ⟨by rw [← hz2.out]; rfl, rfl⟩
  by_cases h5 : c = 1024
  · subst h5
    go_wp2_with fail
    go_ret
    exact ⟨by rw [← hz2.out]; rfl, rfl⟩
  go_wp2_with fail
  go_ret
  exact ⟨by rw [← hz2.out]; simp [h1, h2, h3, h4, h5], rfl⟩
set_option maxHeartbeats 800000 in
set_option maxRecDepth 100000 in
theorem short_any (v s c : Int) (h t : ByteArray) (a : Option Addr) (n k : Nat) (w : World) :
    Calls Tryz.prog 99 #[.agg #[.int .i64 v, .int .i64 s, .int .i64 c, .string h, .string t, .slice a n k]] w fun e w' => e = .returned (.bool (decide (n = 0))) ∧ Below w.heap.size w w' := by
  have hb := Box.mk (bel_alloc w (.cells #[.int .i64 v, .int .i64 s, .int .i64 c, .string h, .string t, .slice a n k] 37))
  go_enter Tryz.func99, Tryz.ntmps99
  go_wp2_with fail
  go_ret
  exact ⟨by rw [show ((n : Int) == 0) = decide (n = 0) from by by_cases h : n = 0 <;> simp [h]]; rfl, hb.out⟩
set_option maxHeartbeats 800000 in
set_option maxRecDepth 100000 in
theorem count_any (v s c : Int) (h t : ByteArray) (a : Option Addr) (n k : Nat) (w : World) (m : Nat) (hn : numB v s c = true) (hm : cntI s c = (m : Int)) :
    Calls Tryz.prog 30 #[.agg #[.int .i64 v, .int .i64 s, .int .i64 c, .string h, .string t, .slice a n k]] w fun e w' => e = .returned (.int .i64 (m : Int)) ∧ Below w.heap.size w w' := by
  have hb := Box.mk (bel_alloc w (.cells #[.int .i64 v, .int .i64 s, .int .i64 c, .string h, .string t, .slice a n k] 37))
  obtain ⟨_, _, h1, h2, h3⟩ := num_sz hn
  have hmB : Box ((s + c - 1) / c = (m : Int)) := ⟨hm⟩
  have hsz := sz_cases h3
  have hc0 : 64 ≤ c := by omega
  have hc1 : c ≤ 1024 := by omega
  clear hn hm h3 hsz
  go_enter Tryz.func30, Tryz.ntmps30
  go_wp2_with fail
  go_ret
  refine ⟨?_, hb.out⟩
  rw [← hmB.out]
  rfl

/-- A bill in its own block. -/
def BAt (w : World) (b : Nat) (v s c : Int) (h t : ByteArray) (x : Value) : Prop := Pk.Blk w b [.int .i64 v, .int .i64 s, .int .i64 c, .string h, .string t, x] 37
theorem BAt.here {w w' : World} {b : Nat} {v s c : Int} {h t : ByteArray} {x : Value} (hA : BAt w b v s c h t x) (hb : Below w.heap.size w w') : BAt w' b v s c h t x := (hb.block b (Pk.Blk.lt hA)).trans hA
theorem BAt.cells {w : World} {b : Nat} {v s c : Int} {h t : ByteArray} {x : Value} (hA : BAt w b v s c h t x) :
    w.cell? ⟨b, 0, none⟩ = some (.int .i64 v) ∧ w.cell? ⟨b, 1, none⟩ = some (.int .i64 s) ∧ w.cell? ⟨b, 2, none⟩ = some (.int .i64 c) ∧ w.cell? ⟨b, 3, none⟩ = some (.string h) ∧ w.cell? ⟨b, 4, none⟩ = some (.string t) ∧ w.cell? ⟨b, 5, none⟩ = some x :=
  ⟨Pk.Blk.cell hA 0, Pk.Blk.cell hA 1, Pk.Blk.cell hA 2, Pk.Blk.cell hA 3, Pk.Blk.cell hA 4, Pk.Blk.cell hA 5⟩
theorem BAt.new (w : World) (v s c : Int) (h t : ByteArray) (x : Value) : BAt (w.alloc (.cells #[.int .i64 v, .int .i64 s, .int .i64 c, .string h, .string t, x] 37)) w.heap.size v s c h t x := Pk.Blk.new w [.int .i64 v, .int .i64 s, .int .i64 c, .string h, .string t, x] _
set_option maxHeartbeats 800000 in
set_option maxRecDepth 100000 in
theorem numbers_any (v s c : Int) (h t : ByteArray) (a : Option Addr) (n k : Nat) (w : World) :
    Calls Tryz.prog 27 #[.agg #[.int .i64 v, .int .i64 s, .int .i64 c, .string h, .string t, .slice a n k]] w fun e w' => e = .returned (.bool (numB v s c)) ∧ Below w.heap.size w w' := by
  have hb := Box.mk (bel_alloc w (.cells #[.int .i64 v, .int .i64 s, .int .i64 c, .string h, .string t, .slice a n k] 37))
  have hA := BAt.new w v s c h t (.slice a n k)
  have h1 := within_any v 255
  have h2 := within_any s 8192
  have h3 := goodchunk_any c
  have hN : Box (numB v s c = (decide (1 ≤ v ∧ v ≤ 255) && (decide (1 ≤ s ∧ s ≤ 8192) && szB c))) := ⟨rfl⟩
  obtain ⟨p, hp⟩ : ∃ p, decide (1 ≤ v ∧ v ≤ 255) = p := ⟨_, rfl⟩
  obtain ⟨q, hq⟩ : ∃ q, decide (1 ≤ s ∧ s ≤ 8192) = q := ⟨_, rfl⟩
  obtain ⟨r, hr⟩ : ∃ r, szB c = r := ⟨_, rfl⟩
  rw [hp] at h1 hN
  rw [hq] at h2 hN
  rw [hr] at h3 hN
  obtain ⟨w1, hw1⟩ : ∃ W, w.alloc (.cells #[.int .i64 v, .int .i64 s, .int .i64 c, .string h, .string t, .slice a n k] 37) = W := ⟨_, rfl⟩
  rw [hw1] at hb hA
  obtain ⟨b, hbe⟩ : ∃ b, w.heap.size = b := ⟨_, rfl⟩
  rw [hbe] at hA
  obtain ⟨q0, q1, q2, q3, q4, q5⟩ := hA.cells
  clear hA
  replace h1 := h1 w1
  replace h2 := h2 w1
  replace h3 := h3 w1
  rw [hN.out]
  clear hp hq hr hN
  go_enter Tryz.func27, Tryz.ntmps27
  go_wp2_with fail
  refine h1.mono ?_
  rintro e w2 ⟨rfl, rfl⟩
  cases p
  · go_wp2_with fail
    go_ret
    exact ⟨rfl, hb.out⟩
  · go_wp2_with fail
    refine h2.mono ?_
    rintro e w2 ⟨rfl, rfl⟩
    cases q
    · go_wp2_with fail
      go_ret
      exact ⟨rfl, hb.out⟩
    · go_wp2_with fail
      refine h3.mono ?_
      rintro e w2 ⟨rfl, rfl⟩
      go_wp2_with fail
      go_ret
      exact ⟨rfl, hb.out⟩
theorem lst_cnt {s c : Int} {t : ByteArray} {l : List ByteArray} {m n : Nat} (hl : l.length = n) (h0 : 0 < n) (hm : cntI s c = (m : Int)) (h : n ≠ m) : lstB s c t l = false := by
  unfold lstB
  rw [hm, hl]
  have h1 : l.isEmpty = false := by cases l with
    | nil => simp at hl; omega
    | cons => rfl
  have h2 : decide ((n : Int) = (m : Int)) = false := by simp; omega
  rw [h1, h2]; rfl
theorem lst_size {s c : Int} {t : ByteArray} {l : List ByteArray} {i : Nat} (hi : i < l.length) (h : (l.getD i ByteArray.empty).size ≠ 32) : lstB s c t l = false := by
  unfold lstB
  have h1 : l.isEmpty = false := by cases l with
    | nil => simp at hi
    | cons => rfl
  have h2 : l.all (fun x => decide (x.size = 32)) = false := by
    rw [List.all_eq_false]
    refine ⟨l[i], List.getElem_mem _, ?_⟩
    have : l.getD i ByteArray.empty = l[i] := by simp [List.getD, hi]
    rw [this] at h
    simpa using h
  rw [h1, h2]; simp
theorem lst_root {s c : Int} {t : ByteArray} {l : List ByteArray} {n : Nat} (hl : l.length = n) (h0 : 0 < n) (hm : cntI s c = (n : Int)) (h : ∀ j, j < n → (l.getD j ByteArray.empty).size = 32) : lstB s c t l = decide (rootL l = t) ∧ ∀ x ∈ l, x.size = 32 := by
  have h1 : l.isEmpty = false := by cases l with
    | nil => simp at hl; omega
    | cons => rfl
  have h3 : ∀ x ∈ l, x.size = 32 := fun x hx => by
    obtain ⟨i, hi, rfl⟩ := List.getElem_of_mem hx
    have := h i (by omega)
    simpa [List.getD, hi] using this
  have h2 : l.all (fun x => decide (x.size = 32)) = true := by
    rw [List.all_eq_true]
    intro x hx
    simpa using h3 x hx
  refine ⟨?_, h3⟩
  unfold lstB
  rw [h1, h2, hm, hl]; simp
theorem fit32 {l : List ByteArray} (h : ∀ x ∈ l, x.size = 32) : Fit l := fun x hx => by rw [h x hx]; omega
set_option maxHeartbeats 1600000 in
set_option maxRecDepth 100000 in
theorem chunks_any (v s c : Int) (h t : ByteArray) (a : Option Addr) (n k : Nat) (l : List ByteArray) (w : World) (hn : numB v s c = true) (hP : PA w a n k l) (hK : KIs w) :
    Calls Tryz.prog 66 #[.agg #[.int .i64 v, .int .i64 s, .int .i64 c, .string h, .string t, .slice a n k]] w fun e w' => e = .returned (.bool (lstB s c t l)) ∧ Below w.heap.size w w' := by
  have hb := bel_alloc w (.cells #[.int .i64 v, .int .i64 s, .int .i64 c, .string h, .string t, .slice a n k] 37)
  have hA := BAt.new w v s c h t (.slice a n k)
  obtain ⟨m, hm, hm1, hm2, _⟩ := cnt_nat hn
  have hlen := hP.len
  have hsh := Box.mk fun w' => short_any v s c h t a n k w'
  have hct := Box.mk fun w' => count_any v s c h t a n k w' m hn hm
  have hPB := Box.mk fun w' (hx : Below w.heap.size w w') => hP.here hx
  have hRt := Box.mk fun w' (hx : Below w.heap.size w w') (hF : Fit l) => root_any n l a k w' (hP.here hx) (hK.below hx hK.lt) hF
  obtain ⟨Z, hZ⟩ : ∃ Z, lstB s c t l = Z := ⟨_, rfl⟩
  have hZB := Box.mk hZ
  have hcap := hP.cap
  have htop := hP.top
  rw [hZ]
  obtain ⟨w1, hw1⟩ : ∃ W, w.alloc (.cells #[.int .i64 v, .int .i64 s, .int .i64 c, .string h, .string t, .slice a n k] 37) = W := ⟨_, rfl⟩
  rw [hw1] at hb hA
  obtain ⟨b, hbe⟩ : ∃ b, w.heap.size = b := ⟨_, rfl⟩
  rw [hbe] at hA
  have qA := Box.mk fun w' (hx : Below w1.heap.size w1 w') => (hA.here hx).cells
  obtain ⟨q0, q1, q2, q3, q4, q5⟩ := hA.cells
  replace hb := Box.mk hb
  replace hA := Box.mk hA
  have h1 := hsh.out w1
  clear hZ hn hP hK
  go_enter Tryz.func66, Tryz.ntmps66
  go_wp2_with fail
  refine h1.mono ?_
  clear h1 hsh
  rintro e w2 ⟨rfl, hb2⟩
  replace hA := Box.mk (hA.out.here hb2)
  replace hb := Box.mk (mono_bel hb.out hb2 (Nat.le_refl _))
  clear q0 q1 q2 q3 q4 q5 hb2 hw1
  obtain ⟨q0, q1, q2, q3, q4, q5⟩ := hA.out.cells
  rcases Nat.eq_zero_or_pos n with hn0 | hn0
  · have hZt : Z = true := by
      rw [← hZB.out]
      obtain rfl : l = [] := List.length_eq_zero_iff.1 (hlen.trans hn0)
      rfl
    have hd : decide (n = 0) = true := by simpa using hn0
    rw [hd]
    go_wp2_with fail
    go_ret
    exact ⟨by rw [hZt]; rfl, hb.out⟩
  have hd : decide (n = 0) = false := by simp; omega
  rw [hd]
  clear hd
  have qA := Box.mk fun w' (hx : Below w2.heap.size w2 w') => (hA.out.here hx).cells
  go_wp2_with fail
  refine region_quiet (fun w' => Below w2.heap.size w2 w') (by kernel_rfl) (by kernel_rfl) (dB _) ?_
  repeat (go_big_quiet_step (first | exact fun _ => rfl | rfl))
  refine quiet_val rfl (.slice a n k) (fun w' hw' => by obtain ⟨q0, q1, q2, q3, q4, q5⟩ := qA.out w' hw'; go_simp) ?_
  simp only [Act.put, List.setIfInBounds_toArray, List.set_cons_succ, List.set_cons_zero]
  repeat (go_big_quiet_step (first | exact fun _ => rfl | rfl))
  refine quiet_val rfl (.agg #[.int .i64 v, .int .i64 s, .int .i64 c, .string h, .string t, .slice a n k]) (fun w' hw' => by obtain ⟨q0, q1, q2, q3, q4, q5⟩ := qA.out w' hw'; go_simp) ?_
  simp only [Act.put, List.setIfInBounds_toArray, List.set_cons_succ, List.set_cons_zero]
  repeat (go_big_quiet_step (first | exact fun _ => rfl | rfl))
  refine quiet_call rfl (.int .i64 (m : Int)) (fun w' hw' => bel_call (hct.out w') hw') (fun w' _ => by go_simp) ?_
  simp only [Act.put, List.setIfInBounds_toArray, List.set_cons_succ, List.set_cons_zero]
  repeat (go_big_quiet_step (first | exact fun _ => rfl | rfl))
  refine wpQuiet_nil ?_
  intro w3 hb3
  clear q0 q1 q2 q3 q4 q5 hct
  replace hA := Box.mk (hA.out.here hb3)
  replace hb := Box.mk (mono_bel hb.out hb3 (Nat.le_refl _))
  clear qA hb3
  by_cases hnm : n = m
  · subst hnm
    have hq : ((n : Int) != (n : Int)) = false := by simp
    obtain ⟨q0, q1, q2, q3, q4, q5⟩ := hA.out.cells
    have hS0 : Box ((∀ j, j < 0 → (l.getD j ByteArray.empty).size = 32) ∧ Below w3.heap.size w3 w3) := ⟨⟨fun j hj => by omega, Below.refl _ _⟩⟩
    go_wp2_with fail
    clear q0 q1 q2 q3 q4 q5
    go_loopw [16] (fun q wr => ∃ i : Nat, i ≤ n ∧ q = .int .i64 (i : Int) ∧ Box ((∀ j, j < i → (l.getD j ByteArray.empty).size = 32) ∧ Below w3.heap.size w3 wr)) (fun q _ => n - (intOf q).toNat)
    case atStart => exact ⟨0, by omega, rfl, hS0⟩
    case round =>
      clear hS0
      obtain ⟨i, hi, rfl, hS⟩ := hrel
      have hA2 := Box.mk (hA.out.here hS.out.2)
      have hb2 := Box.mk (mono_bel hb.out hS.out.2 (Nat.le_refl _))
      obtain ⟨q0, q1, q2, q3, q4, q5⟩ := hA2.out.cells
      by_cases hlt : i < n
      · have hii : (i : Int) < (n : Int) := by omega
        obtain ⟨blk, off, rfl, hblk, hcell⟩ := (hPB.out wr hb2.out).at_ (by omega)
        have hcl := hcell i hlt
        have hxz := Box.mk fun h => lst_size (s := s) (c := c) (t := t) (l := l) (i := i) (by omega) h
        have hsz := hS.out.1
        obtain ⟨x, hx⟩ : ∃ x, l.getD i ByteArray.empty = x := ⟨_, rfl⟩
        rw [hx] at hcl hxz
        rw [hZB.out] at hxz
        by_cases h32 : x.size = 32
        · have hS1 : Box ((∀ j, j < i + 1 → (l.getD j ByteArray.empty).size = 32) ∧ Below w3.heap.size w3 wr) := ⟨⟨fun j hj => by
            by_cases e : j = i
            · subst e; rw [hx]; exact h32
            · exact hsz j (by omega), hS.out.2⟩⟩
          have hq2 : ((x.size : Int) != 32) = false := by rw [h32]; rfl
          clear hS hsz hx hxz hcell hblk hA2 hb2
          go_wp2_with fail
          exact ⟨⟨i + 1, by omega, by go_num, hS1⟩, by simp [intOf]; omega⟩
        · have hq2 : ((x.size : Int) != 32) = true := by simp; omega
          have hZf := Box.mk (hxz.out h32)
          clear hS hsz hx hxz hcell hblk hA2 h32
          go_wp2_with fail
          go_ret
          exact ⟨by rw [hZf.out]; rfl, hb2.out⟩
      · obtain rfl : i = n := by omega
        have hnl : ¬ (i : Int) < (i : Int) := by omega
        obtain ⟨hz1, hz2⟩ := lst_root (s := s) (c := c) (t := t) hlen hn0 hm hS.out.1
        have hR := Box.mk fun w' hx => hRt.out w' hx (fit32 hz2)
        obtain ⟨R, hRe⟩ : ∃ R, rootL l = R := ⟨_, rfl⟩
        rw [hRe] at hR hz1
        rw [hZB.out, ← eqT] at hz1
        replace hz1 := Box.mk hz1
        clear hRe hz2 hRt hZB hPB hA hb hS
        have qA := Box.mk fun w' (hx : Below wr.heap.size wr w') => (hA2.out.here hx).cells
        have hb3 := Box.mk fun w' (hx : Below wr.heap.size wr w') => (mono_bel hb2.out hx (Nat.le_refl _) : Below w.heap.size w w')
        go_wp2_with fail
        refine region_quiet (fun w' => Below wr.heap.size wr w') (by kernel_rfl) (by kernel_rfl) (dB _) ?_
        repeat (go_big_quiet_step (first | exact fun _ => rfl | rfl))
        refine quiet_val rfl (.slice a i k) (fun w' hw' => by obtain ⟨q0, q1, q2, q3, q4, q5⟩ := qA.out w' hw'; go_simp) ?_
        simp only [Act.put, List.setIfInBounds_toArray, List.set_cons_succ, List.set_cons_zero]
        repeat (go_big_quiet_step (first | exact fun _ => rfl | rfl))
        refine quiet_call rfl (.string R) (fun w' hw' => bel_call (hR.out w' (hb3.out w' hw')) hw') (fun w' _ => by go_simp) ?_
        simp only [Act.put, List.setIfInBounds_toArray, List.set_cons_succ, List.set_cons_zero]
        repeat (go_big_quiet_step (first | exact fun _ => rfl | rfl))
        refine quiet_val rfl (.string t) (fun w' hw' => by obtain ⟨q0, q1, q2, q3, q4, q5⟩ := qA.out w' hw'; go_simp) ?_
        simp only [Act.put, List.setIfInBounds_toArray, List.set_cons_succ, List.set_cons_zero]
        repeat (go_big_quiet_step (first | exact fun _ => rfl | rfl))
        refine wpQuiet_nil ?_
        intro w4 hb4
        go_wp2_with fail
        go_ret
        exact ⟨by rw [hz1.out]; rfl, hb3.out w4 hb4⟩
  · have hq : ((n : Int) != (m : Int)) = true := by simp; omega
    have hZf : Box (Z = false) := ⟨hZB.out ▸ lst_cnt hlen hn0 hm hnm⟩
    go_wp2_with fail
    go_ret
    exact ⟨by rw [hZf.out]; rfl, hb.out⟩
set_option maxHeartbeats 1600000 in
set_option maxRecDepth 100000 in
theorem check_any (v s c : Int) (h t : ByteArray) (a : Option Addr) (n k : Nat) (l : List ByteArray) (w : World) (hP : PA w a n k l) (hK : KIs w) :
    Calls Tryz.prog 32 #[.agg #[.int .i64 v, .int .i64 s, .int .i64 c, .string h, .string t, .slice a n k]] w fun e w' => e = .returned (.int .i64 (chkI v s c h t l)) ∧ Below w.heap.size w w' := by
  have hb := bel_alloc w (.cells #[.int .i64 v, .int .i64 s, .int .i64 c, .string h, .string t, .slice a n k] 37)
  have hA := BAt.new w v s c h t (.slice a n k)
  have h1 := numbers_any v s c h t a n k (w.alloc (.cells #[.int .i64 v, .int .i64 s, .int .i64 c, .string h, .string t, .slice a n k] 37))
  have h2 := Box.mk fun w' (hx : Below w.heap.size w w') hn => chunks_any v s c h t a n k l w' hn (hP.here hx) (hK.below hx hK.lt)
  obtain ⟨Z, hZ⟩ : ∃ Z, chkI v s c h t l = Z := ⟨_, rfl⟩
  have hZB : Box ((if numB v s c && (decide (h.size = 32) && (decide (t.size = 32) && lstB s c t l)) then (0 : Int) else 1) = Z) := ⟨hZ⟩
  rw [hZ]
  obtain ⟨w1, hw1⟩ : ∃ W, w.alloc (.cells #[.int .i64 v, .int .i64 s, .int .i64 c, .string h, .string t, .slice a n k] 37) = W := ⟨_, rfl⟩
  rw [hw1] at hb hA h1
  obtain ⟨b, hbe⟩ : ∃ b, w.heap.size = b := ⟨_, rfl⟩
  rw [hbe] at hA
  obtain ⟨q0, q1, q2, q3, q4, q5⟩ := hA.cells
  replace hb := Box.mk hb
  replace hA := Box.mk hA
  clear hZ hP hK
  go_enter Tryz.func32, Tryz.ntmps32
  go_wp2_with fail
  refine h1.mono ?_
  clear h1
  rintro e w2 ⟨rfl, hb2⟩
  replace hA := Box.mk (hA.out.here hb2)
  replace hb := Box.mk (mono_bel hb.out hb2 (Nat.le_refl _))
  clear q0 q1 q2 q3 q4 q5 hb2 hw1
  obtain ⟨q0, q1, q2, q3, q4, q5⟩ := hA.out.cells
  by_cases hn : numB v s c = true
  · replace h2 := h2.out w2 hb.out hn
    rw [hn] at hZB ⊢
    rw [Bool.true_and] at hZB
    clear hn
    by_cases hh : h.size = 32
    · have e1 : ((h.size : Int) != 32) = false := by rw [hh]; rfl
      rw [decide_eq_true hh, Bool.true_and] at hZB
      clear hh
      by_cases ht : t.size = 32
      · have e2 : ((t.size : Int) != 32) = false := by rw [ht]; rfl
        rw [decide_eq_true ht, Bool.true_and] at hZB
        clear ht
        obtain ⟨L, hL⟩ : ∃ L, lstB s c t l = L := ⟨_, rfl⟩
        rw [hL] at h2 hZB
        clear hL
        go_wp2_with fail
        refine h2.mono ?_
        clear h2
        rintro e w3 ⟨rfl, hb3⟩
        replace hb := Box.mk (mono_bel hb.out hb3 (Nat.le_refl _))
        clear hb3 q0 q1 q2 q3 q4 q5 hA
        cases L
        · go_wp2_with fail
          go_ret
          exact ⟨by rw [← hZB.out]; rfl, hb.out⟩
        · go_wp2_with fail
          go_ret
          exact ⟨by rw [← hZB.out]; rfl, hb.out⟩
      · have e2 : ((t.size : Int) != 32) = true := by simp; omega
        rw [decide_eq_false ht, Bool.false_and] at hZB
        clear ht
        go_wp2_with fail
        go_ret
        exact ⟨by rw [← hZB.out]; rfl, hb.out⟩
    · have e1 : ((h.size : Int) != 32) = true := by simp; omega
      rw [decide_eq_false hh, Bool.false_and] at hZB
      clear hh
      go_wp2_with fail
      go_ret
      exact ⟨by rw [← hZB.out]; rfl, hb.out⟩
  · rw [Bool.not_eq_true] at hn
    rw [hn] at hZB ⊢
    rw [Bool.false_and] at hZB
    clear hn
    go_wp2_with fail
    go_ret
    exact ⟨by rw [← hZB.out]; rfl, hb.out⟩
end Go.Proofs.YthkfefkcjcgfkaaGreatDoor.Bi

namespace Go.Proofs.YthkfefkcjcgfkaaGreatDoor.Bi
open Go Go.RowKit Go.Proofs.YthkfefkcjcgfkaaGreatDoor
set_option linter.all false

/-- How many chunks there are of a good bill; of any other none. -/
def cnM (v s c : Int) (h t : ByteArray) (l : List ByteArray) : Nat := if chkB v s c h t l then (cntI s c).toNat else 0
theorem chk_num {v s c : Int} {h t : ByteArray} {l : List ByteArray} (hc : chkB v s c h t l = true) : numB v s c = true := by
  unfold chkB at hc; simp only [Bool.and_eq_true] at hc; exact hc.1
theorem cn_yes {v s c : Int} {h t : ByteArray} {l : List ByteArray} (hc : chkB v s c h t l = true) : cntI s c = (cnM v s c h t l : Int) ∧ 1 ≤ cnM v s c h t l ∧ cnM v s c h t l ≤ 128 := by
  obtain ⟨m, hm, h1, h2, _⟩ := cnt_nat (chk_num hc)
  unfold cnM
  rw [if_pos hc, hm]
  omega
end Go.Proofs.YthkfefkcjcgfkaaGreatDoor.Bi

namespace Go.Proofs.YthkfefkcjcgfkaaGreatDoor.Bi
open Go Go.RowKit Go.Proofs.YthkfefkcjcgfkaaGreatDoor
set_option linter.all false

theorem chk_sz {v s c : Int} {h t : ByteArray} {l : List ByteArray} (hc : chkB v s c h t l = true) : 1 ≤ s ∧ s ≤ 8192 ∧ 64 ≤ c ∧ c ≤ 1024 := by
  obtain ⟨_, _, hs0, hs1, h3⟩ := num_sz (chk_num hc)
  have hsz := sz_cases h3
  omega
end Go.Proofs.YthkfefkcjcgfkaaGreatDoor.Bi

namespace Go.Proofs.YthkfefkcjcgfkaaGreatDoor.Bi
open Go Go.RowKit Go.Proofs.YthkfefkcjcgfkaaGreatDoor
set_option linter.all false

theorem chk_len {v s c : Int} {h t : ByteArray} {l : List ByteArray} (hc : chkB v s c h t l = true) (h0 : l.length ≠ 0) : l.length = cnM v s c h t l ∧ rootL l = t ∧ ∀ x ∈ l, x.size = 32 := by
  have hn := (cn_yes hc).1
  unfold chkB lstB at hc
  simp only [Bool.and_eq_true, Bool.or_eq_true, decide_eq_true_eq, List.isEmpty_iff, List.all_eq_true] at hc
  rcases hc.2.2.2 with h1 | h1
  · exact absurd (by rw [h1]; rfl) h0
  · exact ⟨by omega, h1.2.2, h1.2.1⟩
end Go.Proofs.YthkfefkcjcgfkaaGreatDoor.Bi
