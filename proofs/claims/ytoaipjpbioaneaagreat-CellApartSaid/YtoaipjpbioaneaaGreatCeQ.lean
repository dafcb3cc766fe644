/- Walks of a copy's sectors: what they hold as a text. -/
import Derived.Test.YtoaipjpbioaneaaGreatCeP
import Derived.Test.YtoaipjpbioaneaaGreatFlI
namespace Go.Proofs.YtoaipjpbioaneaaGreat
open Go.RowKit Go.Maps

section
variable {P : Program} {w : World} {ops : Array Oper} {rest : List Oper} {o : Oper} {a : Act} {Q : Exit → Act → World → Prop}
theorem wpList_min2 (hgd : o.guard = none) (x y : Operand) (t : TypeId) (ho : o.op = .call { callee := .builtin .min, args := #[x, y], argTypes := #[t, t] }) (i j m : Int) (hx : a.eval x = .int .i64 i) (hy : a.eval y = .int .i64 j) (hm : (if j < i then j else i) = m)
    (k : wpList P ops Q rest (a.put o.dst (.int .i64 m)) w) : wpList P ops Q (o :: rest) a w := by
  refine wpList_plain hgd fun K hK => ?_
  have hk := hK _ _ k
  rw [← hm] at hk
  unfold Oper.wp execOp
  simp only [ho, resolve, invoke]
  simp [hx, hy, builtin, run_min_int2, Result.andThen]
  exact hk
end
theorem bodyS_succ {S : List Sec} {a j : Nat} (h : a + j < S.length) : bodyS S a (j + 1) = bodyS S a j ++ S.getD (a + j) zeroS := by
  unfold bodyS
  have hj : j < (S.drop a).length := by rw [List.length_drop]; omega
  rw [List.take_succ_eq_append_getElem hj, List.flatten_append]
  congr 1
  rw [List.getElem_drop, List.getD_eq_getElem?_getD, List.getElem?_eq_getElem h]
  simp
theorem bodyS_len {S : List Sec} (hS : okS S) {a : Nat} : ∀ {j : Nat}, a + j ≤ S.length → (bodyS S a j).length = 64 * j
  | 0, _ => by simp [bodyS]
  | j + 1, h => by
    rw [bodyS_succ (by omega), List.length_append, bodyS_len hS (by omega), okS_getD hS]; omega
theorem bodyS_add {S : List Sec} {a j k : Nat} : ∃ r, bodyS S a (j + k) = bodyS S a j ++ r := ⟨_, by unfold bodyS; rw [List.take_add, List.flatten_append]⟩
theorem body_full {S : List Sec} (hS : okS S) {a j K size : Nat} (hj : a + j ≤ S.length) (h1 : size ≤ 64 * j) (h2 : j ≤ K) : (bodyS S a j).take size = (bodyS S a K).take size := by
  obtain ⟨r, hr⟩ := bodyS_add (S := S) (a := a) (j := j) (k := K - j)
  rw [show K = j + (K - j) by omega, hr, List.take_append_of_le_length (by rw [bodyS_len hS hj]; exact h1)]
theorem body_next {S : List Sec} (hS : okS S) {a j size : Nat} (hj : a + j < S.length) : (bodyS S a (j + 1)).take size = (bodyS S a j).take size ++ (S.getD (a + j) zeroS).take (min 64 (size - 64 * j)) := by
  rw [bodyS_succ hj, List.take_append, bodyS_len hS (by omega)]
  congr 1
  rcases Nat.le_total 64 (size - 64 * j) with h2 | h2
  · rw [Nat.min_eq_left h2, List.take_of_length_le (by rw [okS_getD hS]; exact h2), List.take_of_length_le (by rw [okS_getD hS]; exact Nat.le_refl _)]
  · rw [Nat.min_eq_right h2]

set_option maxHeartbeats 6400000 in
set_option maxRecDepth 100000 in
theorem ptext_any (bd : Nat) (F : Nat → Prop) (D : Dev) (at_ n size K : Nat) (hf : Value) (w : World) (h : DAt w bd F D) (hoff : D.off = false) (hK : size ≤ 64 * K) (hfit : at_ + n + K ≤ D.safe.length) (hff : ∃ q : Int, hf = .int .i64 q) :
    Calls Tryz.prog 67 #[.agg #[.pointer (some ⟨bd, 0, none⟩), .int .i64 (at_ : Int), hf], .int .i64 (n : Int), .int .i64 (size : Int)] w fun e w' => e = .returned (.string (btx ((bodyS D.seen (at_ + n) K).take size))) ∧ Box (Below w.heap.size w w') := by
  obtain ⟨q, rfl⟩ := hff
  have hn := h.ok.n
  have hS := h.ok.seen
  have hsl : D.seen.length = D.safe.length := Dev.ok.seen_len
  obtain ⟨w1, hw1⟩ : ∃ w1, w.alloc (.cells #[.pointer (some ⟨bd, 0, none⟩), .int .i64 (at_ : Int), .int .i64 q] 67) = w1 := ⟨_, rfl⟩
  obtain ⟨bp, hbp⟩ : ∃ bp, w.heap.size = bp := ⟨_, rfl⟩
  have hP1 : Blk w1 bp [.pointer (some ⟨bd, 0, none⟩), .int .i64 (at_ : Int), .int .i64 q] 67 := by
    rw [← hw1, ← hbp]; exact Blk.new w _ _
  have hs1 : Box (w1.heap.size = bp + 1) := ⟨by rw [← hw1, ← hbp]; simp⟩
  have hD1 : Box (DAt w1 bd F D) := ⟨by rw [← hw1]; exact h.below ((Below.refl _ _).alloc (Nat.le_refl _) _)⟩
  have hB1 : Box (Below bp w w1) := ⟨by rw [← hw1, ← hbp]; exact (Below.refl _ _).alloc (Nat.le_refl _) _⟩
  obtain ⟨w2, hw2⟩ : ∃ w2, w1.alloc (.cells #[.pointer none, .slice none 0 0] 146) = w2 := ⟨_, rfl⟩
  obtain ⟨bb, hbb⟩ : ∃ bb, w1.heap.size = bb := ⟨_, rfl⟩
  have hI2 : Box (Lib.IsBuilder 146 5 bb bb (Lib.byteCells ((bodyS D.seen (at_ + n) 0).take size)) w2) := ⟨.inl ⟨Nat.le_refl _, .slice none 0 0, by rw [← hw2, ← hbb]; exact heap_alloc_new w1 _, by simp [bodyS, Lib.byteCells]; exact World.ownsRow_nil _ _ _ _, fun e => by cases e⟩⟩
  have hB2 : Box (Below bb w1 w2) := ⟨by rw [← hw2, ← hbb]; exact (Below.refl _ _).alloc (Nat.le_refl _) _⟩
  replace hP1 := Box.mk hP1
  replace hS := Box.mk hS
  clear h
  replace hoff := Box.mk hoff
  replace hsl := Box.mk hsl
  go_enter Tryz.func67, Tryz.ntmps67
  go_wp2_with fail
  clear hw1 hw2
  have hbp' := hbp
  replace hbp := Box.mk hbp
  replace hbp' := Box.mk hbp'
  go_loopw [1] (fun s1 wr => ∃ j : Nat, j ≤ K ∧ s1 = .int .i64 ((n : Int) + (j : Int)) ∧ Box (Lib.IsBuilder 146 5 bb bb (Lib.byteCells ((bodyS D.seen (at_ + n) j).take size)) wr) ∧ Box (Below bb w1 wr)) (fun s1 _ => n + K - (intOf s1).toNat)
  case atStart => exact ⟨0, by omega, by simp, hI2, hB2⟩
  case round =>
    clear hI2 hB2
    obtain ⟨j, hj, rfl, hI, hB⟩ := hrel
    have hD : DAt wr bd F D := hD1.out.below (by rw [hbb]; exact hB.out)
    have hbl : bp < bb := by have := hs1.out; omega
    have c0 : wr.cell? ⟨bp, 0, none⟩ = some (.pointer (some ⟨bd, 0, none⟩)) := by rw [hB.out.cell (p := ⟨bp, 0, none⟩) hbl]; exact hP1.out.cell 0
    have c1 : wr.cell? ⟨bp, 1, none⟩ = some (.int .i64 (at_ : Int)) := by rw [hB.out.cell (p := ⟨bp, 1, none⟩) hbl]; exact hP1.out.cell 1
    have hbw : Box (bb ≤ wr.heap.size) := ⟨by have := hB.out.size; omega⟩
    have hbl2 : (bodyS D.seen (at_ + n) j).length = 64 * j := bodyS_len hS.out (by have := hsl.out; omega)
    obtain ⟨l, hl⟩ : ∃ l, (bodyS D.seen (at_ + n) j).take size = l := ⟨_, rfl⟩
    have hll : l.length = min size (64 * j) := by rw [← hl, List.length_take, hbl2]
    rw [hl] at hI
    have hLen := (Tryz.Builder_Len bb bb _ wr hI.out).mono (R' := fun e w' => e = .returned (.int .i64 (l.length : Int)) ∧ wr = w') fun e w' ⟨x, y⟩ => ⟨by rw [x, Lib.byteCells_length], y.symm⟩
    by_cases hlt : 64 * j < size
    · obtain ⟨m, hm⟩ : ∃ m, l.length = m := ⟨_, rfl⟩
      rw [hm] at hLen
      have hmj : m = 64 * j := by omega
      have hRd := read_fit bd F D (at_ + n + j) wr hD hoff.out (by omega)
      rw [show (((at_ + n + j : Nat)) : Int) = (at_ : Int) + ((n : Int) + (j : Int)) by omega] at hRd
      obtain ⟨sec, hsec⟩ : ∃ sec, D.seen.getD (at_ + n + j) zeroS = sec := ⟨_, rfl⟩
      rw [hsec] at hRd
      change Calls _ _ _ _ (fun e w' => e = .returned (.tuple #[.string (btx sec), .int .i64 0]) ∧ wr = w') at hRd
      have hsl2 : sec.length = 64 := by rw [← hsec]; exact okS_getD hS.out _
      have hss : (btx sec).size = 64 := by rw [mk_size]; exact hsl2
      obtain ⟨mm, hmm⟩ : ∃ mm, min 64 (size - 64 * j) = mm := ⟨_, rfl⟩
      have hmm64 : mm ≤ 64 := by omega
      have hmn : Box ((if ((size : Int) - (m : Int)) < 64 then (size : Int) - (m : Int) else 64) = (mm : Int)) := ⟨by split <;> omega⟩
      have hx : (btx sec).extract 0 mm = btx (sec.take mm) := by rw [mk_cut]; rfl
      have hnew : Box ((bodyS D.seen (at_ + n) (j + 1)).take size = l ++ sec.take mm) := ⟨by
        rw [body_next hS.out (by have := hsl.out; omega), hl, hmm, ← hsec]⟩
      have hW := Box.mk (Tryz.Builder_WriteString bb bb _ (btx (sec.take mm)) wr hI.out (by rw [Lib.byteCells_length, mk_size, List.length_take]; omega) hbw.out)
      have hmb : m < size := by omega
      have hmb2 : (m : Int) < (size : Int) := by omega
      replace hmm := Box.mk hmm
      replace hmj := Box.mk hmj
      replace hlt := Box.mk hlt
      replace hll := Box.mk hll
      replace hLen := Box.mk hLen
      replace hRd := Box.mk hRd
      replace hbl2 := Box.mk hbl2
      replace hsl2 := Box.mk hsl2
      clear hl hm hsec hD hI
      replace hbb := Box.mk hbb
      go_wp2_with fail
      refine hLen.out.mono ?_
      rintro e w' ⟨rfl, rfl⟩
      go_wp2_with fail
      refine hRd.out.mono ?_
      rintro e w' ⟨rfl, rfl⟩
      go_wp2_with fail
      refine hLen.out.mono ?_
      rintro e w' ⟨rfl, rfl⟩
      go_wp2_with (refine wpList_min2 rfl (.tmp 29) (.tmp 32) 3 rfl 64 ((size : Int) - (m : Int)) (mm : Int) rfl rfl hmn.out ?_)
      refine hW.out.mono ?_
      rintro e w6 ⟨rfl, hA, hb6⟩
      have hI6 : Box (Lib.IsBuilder 146 5 bb bb (Lib.byteCells ((bodyS D.seen (at_ + n) (j + 1)).take size)) w6) := ⟨by
        rw [hnew.out, Lib.byteCells_append]; exact .inr hA⟩
      have hB6 : Box (Below bb w1 w6) := ⟨hB.out.trans hb6⟩
      have hjK : Box (j + 1 ≤ K) := ⟨by have := hlt.out; omega⟩
      clear hW hA hb6 hB hnew hLen hRd c0 c1 hx hmn hmb hmb2 hss hmm64
      go_wp2_with fail
      exact ⟨⟨j + 1, hjK.out, u_eq (by omega), hI6, hB6⟩, by simp [intOf]; have := hjK.out; omega⟩
    · have hsz : l.length = size := by omega
      rw [hsz] at hLen
      have hSt := Box.mk (Tryz.Builder_String_any bb bb l wr hI.out hbw.out)
      have hlast : Box (btx l = btx ((bodyS D.seen (at_ + n) K).take size)) := ⟨by rw [← hl, body_full hS.out (by have := hsl.out; omega) (by omega) hj]⟩
      replace hLen := Box.mk hLen
      replace hsz := Box.mk hsz
      replace hll := Box.mk hll
      replace hbl2 := Box.mk hbl2
      have hBz : Box (Below bp w wr) := ⟨hB1.out.trans (hB.out.mono (by omega))⟩
      clear hl hD hI hB
      replace hbb := Box.mk hbb
      go_wp2_with fail
      refine hLen.out.mono ?_
      rintro e w' ⟨rfl, rfl⟩
      go_wp2_with fail
      refine hSt.out.mono ?_
      rintro e w6 ⟨rfl, hb6⟩
      have hBe : Box (Below w.heap.size w w6) := ⟨by rw [hbp'.out]; exact hBz.out.trans (hb6.mono (by omega))⟩
      have hlast2 := hlast.out
      unfold btx at hlast2
      clear hSt hb6 hLen c0 c1 hBz
      replace hlast2 := Box.mk hlast2
      go_wp2_with fail
      go_returns
      exact ⟨by rw [hlast2.out]; rfl, hBe⟩
end Go.Proofs.YtoaipjpbioaneaaGreat
