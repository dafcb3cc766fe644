/- What stands in the program's memory; walks of note.number, Text and of the document's size, Text, lines. -/
import Derived.Lib.ItoaLen
import Derived.Test.YthkfefkcjcgfkaaGreatDoorWna
import Derived.Test.YthkfefkcjcgfkaaGreatDoorWl1
set_option linter.all false
namespace Go.Proofs.YthkfefkcjcgfkaaGreatDoor.Nt
open Go Go.RowKit

/-- What note's functions need of the library's variables, below B. -/
structure NL (B : Nat) (w : World) : Prop where
  pis : ∀ w', Below B w w' → Lib.TabIs Tryz.prog w' "internal/strconv.uint64pow10" .u64 Lib.pow10Tab
  s : ∃ te pe, w.cell? ⟨1, 0, none⟩ = some (.iface te pe)
  r : ∃ te pe, w.cell? ⟨2, 0, none⟩ = some (.iface te pe)
  m : ∃ k, w.cell? ⟨0, 0, none⟩ = some (.int .i64 k)
  ls : 1 < B
  lr : 2 < B
  lm : 0 < B
theorem NL.below {B : Nat} {w w' : World} (h : NL B w) (hb : Below B w w') : NL B w' := by
  obtain ⟨a, b, c⟩ := h.s
  obtain ⟨d, e, f⟩ := h.r
  obtain ⟨k, hk⟩ := h.m
  exact ⟨fun w2 h2 => h.pis w2 (hb.trans h2), ⟨a, b, (hb.cell (p := ⟨1, 0, none⟩) h.ls).trans c⟩, ⟨d, e, (hb.cell (p := ⟨2, 0, none⟩) h.lr).trans f⟩, ⟨k, (hb.cell (p := ⟨0, 0, none⟩) h.lm).trans hk⟩, h.ls, h.lr, h.lm⟩
theorem NL.here {B : Nat} {w w' : World} (h : NL B w) (hB : B ≤ w.heap.size) (hb : Below w.heap.size w w') : NL B w' := h.below (hb.mono hB)
/-- A number's decimal digits. -/
def txN (n : Int) : ByteArray := ⟨(Lib.itoa n).toArray⟩
theorem bel_grow (w : World) (k : Nat) (os : Array Obj) : Below w.heap.size w (Sort.grow (w.drewN k) os) :=
  ⟨rfl, rfl, rfl, by simp [Sort.grow], fun j hj => by simp [Sort.grow, Array.getElem?_append, hj]⟩
theorem itoa_any (n : Int) (B : Nat) (w : World) (hL : NL B w) (h0 : -9223372036854775808 ≤ n) (h1 : n ≤ 9223372036854775807) :
    Calls Tryz.prog 24 #[.int .i64 n] w fun e w' => e = .returned (.string (txN n)) ∧ Below w.heap.size w w' :=
  (Tryz.strconv_Itoa n h0 h1 w (hL.pis w (Below.refl _ _))).mono fun e w' => by
    rintro ⟨rfl, k, os, rfl⟩
    exact ⟨rfl, bel_grow w k os⟩
theorem txN_size (n : Int) (h0 : -9223372036854775808 ≤ n) (h1 : n ≤ 9223372036854775807) : (txN n).size ≤ 21 := Lib.itoa_length_le n h0 h1
theorem bel_call {w0 w : World} {f : FuncId} {args : Array Value} {v : Value} (h : Calls Tryz.prog f args w fun e w' => e = .returned v ∧ Below w.heap.size w w') (hb : Below w0.heap.size w0 w) :
    Calls Tryz.prog f args w fun e w' => e = .returned v ∧ Below w0.heap.size w0 w' := h.mono fun _ _ he => ⟨he.1, mono_bel hb he.2 (Nat.le_refl _)⟩
theorem tl_eq (a b : ByteArray) : (a.toList == b.toList) = decide (a = b) := by
  by_cases h : a = b
  · subst h; simp
  · have : ¬ a.toList = b.toList := fun e => h (ba_ext (by rw [← ByteArray.toList_eq, ← ByteArray.toList_eq]; exact e))
    simp [h, this]
set_option maxHeartbeats 1600000 in
set_option maxRecDepth 100000 in
theorem number_any (x : ByteArray) (B : Nat) (w : World) (hE : NL B w) (hx : x.size ≤ 281474976710656) :
    Calls Tryz.prog 15 #[.string x] w fun e w' => e = .returned (.int .i64 (numI x.data.toList)) ∧ Below w.heap.size w w' := by
  cases ha : Lib.atoiAll x.data.toList with
  | ok v =>
    have hC := Tryz.strconv_Atoi_ok x (by omega) v ha w
    have hn : numI x.data.toList = v := by unfold numI; rw [ha]
    rw [hn]
    clear hn ha
    go_enter Tryz.func15, Tryz.ntmps15
    go_wp2_with fail
    refine hC.mono ?_
    rintro e w1 ⟨rfl, hw⟩
    have hb : Box (Below w.heap.size w w1) := ⟨by
      rcases hw with rfl | ⟨t, rfl⟩
      · exact Below.refl _ _
      · exact Lib.bytesWorld_below _ _ _⟩
    clear hw hC
    go_wp2_with fail
    go_ret
    exact ⟨rfl, hb.out⟩
  | range =>
    obtain ⟨te, pe, hv⟩ := hE.r
    have hC := Tryz.strconv_Atoi_range x hx ha _ w hv (.inr ⟨te, pe, rfl⟩)
    have hn : numI x.data.toList = -1 := by unfold numI; rw [ha]
    rw [hn]
    clear hn ha hv
    go_enter Tryz.func15, Tryz.ntmps15
    go_wp2_with fail
    refine hC.mono ?_
    rintro e w1 ⟨N, rfl, _, _, hb⟩
    replace hb := Box.mk hb
    clear hC
    go_wp2_with fail
    go_ret
    exact ⟨rfl, hb.out⟩
  | _ =>
    obtain ⟨te, pe, hv⟩ := hE.s
    have hC := Tryz.strconv_Atoi_syntax x hx (fun v e => by rw [ha] at e; cases e) (by rw [ha]; intro e; cases e) _ w hv (.inr ⟨te, pe, rfl⟩)
    have hn : numI x.data.toList = -1 := by unfold numI; rw [ha]
    rw [hn]
    clear hn ha hv
    go_enter Tryz.func15, Tryz.ntmps15
    go_wp2_with fail
    refine hC.mono ?_
    rintro e w1 ⟨N, rfl, _, _, hb⟩
    replace hb := Box.mk hb
    clear hC
    go_wp2_with fail
    go_ret
    exact ⟨rfl, hb.out⟩

def sT : ByteArray := ⟨#[111, 115, 116, 108, 101, 114, 32, 99, 104, 101, 99, 107, 112, 111, 105, 110, 116, 10]⟩
def sN : ByteArray := ⟨#[10]⟩
def hxT (r : ByteArray) : ByteArray := ⟨(hexL r.data.toList).toArray⟩
theorem hxT_size (r : ByteArray) : (hxT r).size = 2 * r.size := by
  show (hexL r.data.toList).toArray.size = _
  rw [List.size_toArray, hexL_length, data_len]
/-- A checkpoint's text. -/
def ckT (c : Ck) : ByteArray := ⟨(ckL c).toArray⟩
theorem ckT_eq (c : Ck) : sT ++ c.o ++ sN ++ txN c.n ++ sN ++ hxT c.r ++ sN = ckT c := by
  refine ba_ext ?_
  simp only [ByteArray.data_append, Array.toList_append]
  show _ = ckL c
  unfold ckL sT sN txN hxT lTitle
  simp [jn]
def txtS (c : Ck) : ByteArray := if gC c = true then ckT c else ByteArray.empty
def txtE (c : Ck) : Int := if gC c = true then 0 else 1
def txtV (c : Ck) : Value := .tuple #[.string (txtS c), .int .i64 (txtE c)]
theorem txtV_yes {c : Ck} (h : gC c = true) : txtV c = .tuple #[.string (ckT c), .int .i64 0] := by unfold txtV txtS txtE; rw [if_pos h, if_pos h]
theorem txtV_no {c : Ck} (h : gC c = false) : txtV c = .tuple #[.string ⟨#[]⟩, .int .i64 1] := by unfold txtV txtS txtE; rw [if_neg (by simp [h]), if_neg (by simp [h])]; rfl
theorem gO_size {o : ByteArray} (h : gO o.data.toList = true) : o.size ≤ 64 := by
  unfold gO at h
  rw [data_len] at h
  simp only [Bool.and_eq_true, decide_eq_true_eq] at h
  exact h.2.2
set_option maxHeartbeats 1600000 in
set_option maxRecDepth 100000 in
theorem text_any (c : Ck) (B : Nat) (w : World) (hL : NL B w) (hB : B ≤ w.heap.size) (ho : c.o.size ≤ 140737488355328) (hr : c.r.size ≤ 140737488355328) :
    Calls Tryz.prog 7 #[ckV c] w fun e w' => e = .returned (txtV c) ∧ Below w.heap.size w w' := by
  obtain ⟨W1, hW1⟩ : ∃ W1, w.alloc (.cells #[.string c.o, .int .i64 c.n, .string c.r] 23) = W1 := ⟨_, rfl⟩
  have hB1 : Below w.heap.size w W1 := by rw [← hW1]; exact bel_alloc _ _
  have hS1 : Pk.Blk W1 w.heap.size [.string c.o, .int .i64 c.n, .string c.r] 23 := by rw [← hW1]; exact Pk.Blk.new w _ _
  have hF := good_any c W1 ho hr
  have hE := Box.mk (ckT_eq c)
  have hL1 := hL.here hB hB1
  have s0 : W1.cell? ⟨w.heap.size, 0, none⟩ = some (.string c.o) := hS1.cell 0
  have s1 : W1.cell? ⟨w.heap.size, 1, none⟩ = some (.int .i64 c.n) := hS1.cell 1
  have s2 : W1.cell? ⟨w.heap.size, 2, none⟩ = some (.string c.r) := hS1.cell 2
  have hsz : B ≤ W1.heap.size := Nat.le_trans hB hB1.size
  cases hg : gC c with
  | false =>
    rw [hg] at hF
    rw [txtV_no hg]
    obtain ⟨o, n, r⟩ := c
    unfold ckV at hF ⊢
    simp only at hF s0 s1 s2 hW1 ⊢
    replace hB1 := Box.mk hB1
    clear hE hL hL1 hS1 ho hr hg hsz hB
    go_enter Tryz.func7, Tryz.ntmps7
    go_wp2_with fail
    refine hF.mono ?_
    clear hF
    rintro e w1 ⟨rfl, hb1⟩
    replace hb1 := Box.mk hb1
    go_wp2_with fail
    go_ret2
    exact ⟨rfl, mono_bel hB1.out hb1.out (Nat.le_refl _)⟩
  | true =>
    rw [hg] at hF
    obtain ⟨g1, g2, g3, g4⟩ := gC_iff.1 hg
    have gz := gO_size g1
    rw [txtV_yes hg]
    rw [← hE.out]
    clear hE
    obtain ⟨o, n, r⟩ := c
    unfold ckV at hF ⊢
    simp only at hF s0 s1 s2 hW1 g1 g2 g3 g4 gz hS1 ⊢
    have hI := fun w' (hb : Below W1.heap.size W1 w') => itoa_any n B w' (hL1.here hsz hb) (by omega) (by omega)
    have hsz2 : Box ((txN n).size ≤ 21 ∧ (hxT r).size = 64 ∧ o.size ≤ 64) := ⟨txN_size n (by omega) (by omega), by rw [hxT_size, g4], gz⟩
    have hr2 : r.size ≤ 35184372088832 := by omega
    replace hI := Box.mk hI
    replace hB1 := Box.mk hB1
    replace hS1 := Box.mk hS1
    replace hr2 := Box.mk hr2
    clear hL hL1 ho hr hg hsz hB g1 g2 g3 g4 gz
    go_enter Tryz.func7, Tryz.ntmps7
    go_wp2_with fail
    refine hF.mono ?_
    clear hF
    rintro e w1 ⟨rfl, hb1⟩
    have hk1 := Box.mk (fun w' (h : Below w1.heap.size w1 w') => (mono_bel hb1 h (Nat.le_refl _)))
    have hlt : w.heap.size < W1.heap.size := hS1.out.lt
    have hC := Box.mk (fun w' (h : Below w1.heap.size w1 w') => ((hk1.out w' h).block _ hlt).trans hS1.out)
    replace hb1 := Box.mk hb1
    clear s0 s1 s2 hlt hS1
    go_wp2_with fail
    refine region_quiet (fun w' => Below w1.heap.size w1 w') (by kernel_rfl) (by kernel_rfl) (dB _) ?_
    repeat (go_big_quiet_step (first | exact fun _ => rfl | rfl))
    refine quiet_val rfl (.string o) (fun w' hw' => by have h3 := Pk.Blk.cell (hC.out w' hw') 0; simp only [List.getElem?_cons_zero] at h3; go_simp) ?_
    simp only [Act.put, List.setIfInBounds_toArray, List.set_cons_succ, List.set_cons_zero]
    repeat (go_big_quiet_step (first | exact fun _ => rfl | rfl))
    refine quiet_val rfl (.string (sT ++ o)) (fun w' _ => by unfold sT; go_simp; have := hsz2.out; omega) ?_
    simp only [Act.put, List.setIfInBounds_toArray, List.set_cons_succ, List.set_cons_zero]
    repeat (go_big_quiet_step (first | exact fun _ => rfl | rfl))
    refine quiet_val rfl (.string (sT ++ o ++ sN)) (fun w' _ => by unfold sN; go_simp; have := hsz2.out; have e1 : sT.size = 18 := rfl; omega) ?_
    simp only [Act.put, List.setIfInBounds_toArray, List.set_cons_succ, List.set_cons_zero]
    repeat (go_big_quiet_step (first | exact fun _ => rfl | rfl))
    refine quiet_val rfl (.int .i64 n) (fun w' hw' => by have h3 := Pk.Blk.cell (hC.out w' hw') 1; simp only [List.getElem?_cons_zero, List.getElem?_cons_succ] at h3; go_simp) ?_
    simp only [Act.put, List.setIfInBounds_toArray, List.set_cons_succ, List.set_cons_zero]
    repeat (go_big_quiet_step (first | exact fun _ => rfl | rfl))
    refine quiet_call rfl (.string (txN n)) (fun w' hw' => bel_call (hI.out w' (mono_bel hb1.out hw' (Nat.le_refl _))) hw') (fun w' _ => by go_simp) ?_
    simp only [Act.put, List.setIfInBounds_toArray, List.set_cons_succ, List.set_cons_zero]
    repeat (go_big_quiet_step (first | exact fun _ => rfl | rfl))
    refine quiet_val rfl (.string (sT ++ o ++ sN ++ txN n)) (fun w' _ => by go_simp; have := hsz2.out; have e1 : sT.size = 18 := rfl; have e2 : sN.size = 1 := rfl; omega) ?_
    simp only [Act.put, List.setIfInBounds_toArray, List.set_cons_succ, List.set_cons_zero]
    repeat (go_big_quiet_step (first | exact fun _ => rfl | rfl))
    refine quiet_val rfl (.string (sT ++ o ++ sN ++ txN n ++ sN)) (fun w' _ => by unfold sN; go_simp; have := hsz2.out; have e1 : sT.size = 18 := rfl; have e2 : sN.size = 1 := rfl; omega) ?_
    simp only [Act.put, List.setIfInBounds_toArray, List.set_cons_succ, List.set_cons_zero]
    repeat (go_big_quiet_step (first | exact fun _ => rfl | rfl))
    refine quiet_val rfl (.string r) (fun w' hw' => by have h3 := Pk.Blk.cell (hC.out w' hw') 2; simp only [List.getElem?_cons_zero, List.getElem?_cons_succ] at h3; go_simp) ?_
    simp only [Act.put, List.setIfInBounds_toArray, List.set_cons_succ, List.set_cons_zero]
    repeat (go_big_quiet_step (first | exact fun _ => rfl | rfl))
    refine quiet_call rfl (.string (hxT r)) (fun w' hw' => bel_call (hex_any r w' hr2.out) hw') (fun w' _ => by go_simp) ?_
    simp only [Act.put, List.setIfInBounds_toArray, List.set_cons_succ, List.set_cons_zero]
    repeat (go_big_quiet_step (first | exact fun _ => rfl | rfl))
    refine quiet_val rfl (.string (sT ++ o ++ sN ++ txN n ++ sN ++ hxT r)) (fun w' _ => by go_simp; have := hsz2.out; have e1 : sT.size = 18 := rfl; have e2 : sN.size = 1 := rfl; omega) ?_
    simp only [Act.put, List.setIfInBounds_toArray, List.set_cons_succ, List.set_cons_zero]
    repeat (go_big_quiet_step (first | exact fun _ => rfl | rfl))
    refine quiet_val rfl (.string (sT ++ o ++ sN ++ txN n ++ sN ++ hxT r ++ sN)) (fun w' _ => by unfold sN; go_simp; have := hsz2.out; have e1 : sT.size = 18 := rfl; have e2 : sN.size = 1 := rfl; omega) ?_
    simp only [Act.put, List.setIfInBounds_toArray, List.set_cons_succ, List.set_cons_zero]
    repeat (go_big_quiet_step (first | exact fun _ => rfl | rfl))
    refine wpQuiet_nil ?_
    intro w2 hw2
    have hb2 := Box.mk (mono_bel hB1.out (hk1.out w2 hw2) (Nat.le_refl _))
    clear hI hC hb1 hk1 hB1 hsz2 hr2 hw2
    obtain ⟨P, hP⟩ : ∃ P, sT ++ o ++ sN ++ txN n ++ sN ++ hxT r ++ sN = P := ⟨_, rfl⟩
    rw [hP]
    replace hP := Box.mk hP
    go_wp2_with fail
    go_ret2
    exact ⟨by rw [hP.out]; rfl, hb2.out⟩
/-! The document's lines. -/
def bT (l : List UInt8) : ByteArray := ⟨l.toArray⟩
end Go.Proofs.YthkfefkcjcgfkaaGreatDoor.Nt
