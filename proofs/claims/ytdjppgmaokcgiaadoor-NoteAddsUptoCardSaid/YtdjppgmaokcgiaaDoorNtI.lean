/- Walks of law 11's tells and of NoteCheckpoints. -/
import Derived.Test.YtdjppgmaokcgiaaDoorNtH
import Derived.Laws.StructEq
import Derived.Great.BuildSlice
namespace Go.Proofs.YtdjppgmaokcgiaaDoor.Nt
open Go Go.RowKit

set_option maxRecDepth 100000 in
theorem eql_ck (a : ByteArray) (n : Int) (b : ByteArray) (w : World) : (binOp .eql 23 (.agg #[.string a, .int .i64 n, .string b]) (.agg #[.string a, .int .i64 n, .string b])).run Tryd.prog w = .ok (.bool true) w := by
  have hS : Tryd.prog.underlying 23 = some (.struct (Tryd.prog.fieldsOf 23)) := by kernel_rfl
  have hp : Tryd.prog.stoodInHeld 23 = false := by kernel_rfl
  have u9 := Tryd.underlying9
  have u3 := Tryd.underlying3
  rw [run_eql_struct, show (10000 : Nat) = 9999 + 1 from rfl, run_equalIn_agg w 9999 23 _ _ hS hp]
  simp only [Program.fieldsOf, Tryd.underlying23]
  go_simp
set_option maxRecDepth 100000 in
theorem neq_ck (a : ByteArray) (n : Int) (b : ByteArray) (w : World) : (binOp .neq 23 (.agg #[.string a, .int .i64 n, .string b]) (.agg #[.string a, .int .i64 n, .string b])).run Tryd.prog w = .ok (.bool false) w := by
  have hS : Tryd.prog.underlying 23 = some (.struct (Tryd.prog.fieldsOf 23)) := by kernel_rfl
  have hp : Tryd.prog.stoodInHeld 23 = false := by kernel_rfl
  have u9 := Tryd.underlying9
  have u3 := Tryd.underlying3
  rw [run_neq_struct, show (10000 : Nat) = 9999 + 1 from rfl, run_equalIn_agg w 9999 23 _ _ hS hp]
  simp only [Program.fieldsOf, Tryd.underlying23]
  go_simp
set_option maxRecDepth 100000 in
theorem guard_eql (x y : Operand) (xs ys : Array Value) (w : World) : (eqGuard .eql 23 x y (.agg xs) (.agg ys)).run Tryd.prog w = .ok () w :=
  run_eqGuard_agg w .eql 23 x y xs ys (by kernel_rfl)
set_option maxRecDepth 100000 in
theorem guard_neq (x y : Operand) (xs ys : Array Value) (w : World) : (eqGuard .neq 23 x y (.agg xs) (.agg ys)).run Tryd.prog w = .ok () w :=
  run_eqGuard_agg w .neq 23 x y xs ys (by kernel_rfl)
section
variable {P : Program} {w : World} {ops : Array Oper} {rest : List Oper} {o : Oper} {a : Act} {Q : Exit → Act → World → Prop}
theorem wpList_wanted (hw : Region.wanted o (yielded ops a.tmps) = true) (h : ∀ K : Act → World → Prop, (∀ a w, wpList P ops Q rest a w → K a w) → o.wp P a w K Q) : wpList P ops Q (o :: rest) a w :=
  wpList_step fun K hK => by rw [if_pos hw]; exact h K hK
theorem wpList_makeG (hw : Region.wanted o (yielded ops a.tmps) = true) (l c : Operand) (t : TypeId) (hop : o.op = Op.makeSlice t l c) (base : Nat) (e : TypeId) (i : TypeInfo) (z : Value) (size : Nat) (h1 : P.underlying t = some (.slice e)) (h2 : P.info? e = some i) (h3 : i.zero = some z) (h4 : i.size = size)
    (kl kc : IntKind) (L C : Int) (n : Nat) (hl : a.eval l = .int kl L) (hc : a.eval c = .int kc C) (hL : L = (n : Int)) (hC : C = (n : Int)) (b2 : i.bytes * n ≤ 281474976710656) (b3 : n ≤ maxLen) (b4 : base ≤ w.heap.size)
    (k : ∀ w', w'.ownsRow base e size (.slice (some ⟨w.heap.size, 0, none⟩) n n) n (madeCells z.cells (n * size)).toList → w.grownBy w' none → wpList P ops Q rest (a.put o.dst (.slice (some ⟨w.heap.size, 0, none⟩) n n)) w') : wpList P ops Q (o :: rest) a w := by
  refine wpList_wanted hw fun K hK => ?_
  obtain ⟨w', hrun, r1, r2⟩ := run_make_full (P := P) w base t e i z size h1 h2 h3 h4 kl kc n b2 b3 b4
  subst hL
  subst hC
  unfold Oper.wp
  simp [execOp, hop, hl, hc, hrun, Result.andThen]
  exact hK _ _ (k w' r1 r2)
end
def zs (n : Nat) : ByteArray := bT (List.replicate n 0)
theorem zeros_convG (w : World) (g base n : Nat) (h : w.ownsRow base 5 1 (.slice (some ⟨g, 0, none⟩) n n) n (madeCells (Value.int .u8 0).cells (n * 1)).toList) :
    (convert 44 9 (.slice (some ⟨g, 0, none⟩) n n)).run Tryd.prog w = .ok (.string (zs n)) w := by
  have e : (madeCells (Value.int .u8 0).cells (n * 1)).toList = (List.replicate n (0 : UInt8)).map Pk.yc := by
    have := toList_madeCells_one (.int .u8 0) (n * 1)
    rw [Nat.mul_one] at this
    rw [Nat.mul_one, List.map_replicate]
    exact this
  rw [e] at h
  have h2 : w.ownsRow base 5 1 (.slice (some ⟨g, 0, none⟩) n n) (List.replicate n (0 : UInt8)).length ((List.replicate n (0 : UInt8)).map Pk.yc) := by rw [List.length_replicate]; exact h
  exact own_text h2
theorem infoY : (Tryd.prog.info? 5).map (fun i => (i.zero, i.size, i.bytes)) = some (some (.int .u8 0), 1, 1) := by kernel_rfl
theorem grown_below {w w' : World} (hg : w.grownBy w' none) : Below w.heap.size w w' := ⟨hg.os, hg.tape, hg.output, hg.size, fun k hk => hg.block k hk (by simp)⟩
def ck0 : Ck := ⟨⟨#[97]⟩, 0, zs 32⟩
theorem ck0_good : gC ck0 = true := by decide +kernel
theorem ck0_size : (ckT ck0).size = 87 := by
  show (ckL ck0).length = 87
  unfold ckL ck0 lTitle
  have e : Lib.itoa 0 = [48] := by rw [itoa_of (by omega)]; rw [Lib.decDigits]; rfl
  simp only [jn, List.flatMap_cons, List.flatMap_nil, List.append_nil, List.length_append, hexL_length, e]
  rfl
theorem tn_good : gN (⟨#[116, 10]⟩, []) = true := by decide +kernel
theorem tn_bytes : (⟨(byN (⟨#[116, 10]⟩, [])).toArray⟩ : ByteArray) = ⟨#[116, 10, 10]⟩ := rfl
set_option maxHeartbeats 6400000 in
set_option maxRecDepth 100000 in
theorem tells_any (B : Nat) (w : World) (hL : NL B w) (hB : B ≤ w.heap.size) :
    Calls Tryd.prog 7 #[] w fun e w' => e = .returned (.bool true) ∧ Below w.heap.size w w' := by
  obtain ⟨i5, hi, hz0, hz1, hz2⟩ := info_parts infoY
  have hH := Box.mk (And.intro hi (And.intro hz0 (And.intro hz1 hz2)))
  have hT := Box.mk (fun w' (h : Below w.heap.size w w') => text_any ck0 B w' (hL.here hB h) (Nat.le_trans hB h.size) (by decide) (by decide))
  rw [txtV_yes ck0_good] at hT
  have hsz := ck0_size
  obtain ⟨T, hTe⟩ : ∃ T, ckT ck0 = T := ⟨_, rfl⟩
  have hpc : pCk T.data.toList = some ck0 := by rw [← hTe]; exact pCk_by ck0_good
  have hP := Box.mk (fun w' (h : Below w.heap.size w w') => parse_any T B w' (hL.here hB h) (Nat.le_trans hB h.size) (by rw [← hTe, ck0_size]; decide))
  rw [prV_some hpc] at hP
  have hF := Box.mk (fun w' (h : Below w.heap.size w w') => format_any ⟨#[116, 10]⟩ none 0 0 [] B w' (hL.here hB h) (Nat.le_trans hB h.size) (by decide) ⟨none, 0, rfl, fun h => absurd h (Nat.lt_irrefl 0)⟩ rfl (by decide) (fun x h => by cases h))
  rw [fmV_yes tn_good, tn_bytes] at hF
  rw [hTe] at hT hsz
  unfold ck0 ckV at hT
  unfold ck0 at hP
  simp only at hT hP
  have hs87 : (T.size : Int) = 87 := by omega
  have heq := Box.mk eql_ck
  have hgd := Box.mk guard_eql
  clear hi hz0 hz1 hz2 hL hB hpc hTe hsz
  go_enter Tryd.func7, Tryd.ntmps7
  go_wp2_with (at_make; refine wpList_makeG rfl (.const (.int .i64 32)) (.const (.int .i64 32)) 44 rfl w.heap.size 5 i5 (.int .u8 0) 1 Tryd.underlying44 hH.out.1 hH.out.2.1 hH.out.2.2.1 .i64 .i64 _ _ 32 rfl rfl rfl rfl (by rw [hH.out.2.2.2]; omega) (by unfold maxLen; omega) (Nat.le_refl _) ?_; intro w1 hown hg; have hconv := zeros_convG w1 _ _ _ hown; have hB1 := Box.mk (grown_below hg); clear hown hg)
  have hT1 := hT.out _ (mono_bel hB1.out (bel_alloc w1 (.cells #[.string ⟨#[97]⟩, .int .i64 0, .string (zs 32)] 23)) (Nat.le_refl _))
  have hS1 := Box.mk (Pk.Blk.new w1 [.string ⟨#[97]⟩, .int .i64 0, .string (zs 32)] 23)
  have hB2 := Box.mk (mono_bel hB1.out (bel_alloc w1 (.cells #[.string ⟨#[97]⟩, .int .i64 0, .string (zs 32)] 23)) (Nat.le_refl _))
  refine hT1.mono ?_
  clear hT1 hT hB1 hconv
  rintro e w2 ⟨rfl, hb2⟩
  have hS2 := Box.mk ((hb2.block _ (Pk.Blk.lt hS1.out)).trans hS1.out)
  have hB3 := Box.mk (mono_bel hB2.out hb2 (Nat.le_refl _))
  have hP1 := hP.out w2 hB3.out
  clear hb2 hS1 hB2 hP
  obtain ⟨b1, hb1⟩ : ∃ b, w1.heap.size = b := ⟨_, rfl⟩
  rw [hb1] at hS2
  rw [hb1]
  clear hb1
  go_wp2_with fail
  refine hP1.mono ?_
  clear hP1
  rintro e w3 ⟨rfl, hb3⟩
  have hS3 := Box.mk ((hb3.block _ (Pk.Blk.lt hS2.out)).trans hS2.out)
  have hB4 := Box.mk (mono_bel hB3.out hb3 (Nat.le_refl _))
  obtain ⟨w4, hw4⟩ : ∃ w4, w3.alloc (.cells #[.string ⟨#[97]⟩, .int .i64 0, .string (zs 32)] 23) = w4 := ⟨_, rfl⟩
  have hB5 : Box (Below w.heap.size w w4) := ⟨by rw [← hw4]; exact mono_bel hB4.out (bel_alloc _ _) (Nat.le_refl _)⟩
  have hS5 : Box (Pk.Blk w4 b1 [.string ⟨#[97]⟩, .int .i64 0, .string (zs 32)] 23) := ⟨by rw [← hw4]; exact ((bel_alloc w3 _).block _ (Pk.Blk.lt hS3.out)).trans hS3.out⟩
  have hR5 : Box (Pk.Blk w4 w3.heap.size [.string ⟨#[97]⟩, .int .i64 0, .string (zs 32)] 23) := ⟨by rw [← hw4]; exact Pk.Blk.new w3 _ _⟩
  have hF1 := hF.out w4 hB5.out
  clear hb3 hS2 hB3 hF hS3 hB4
  go_wp2_with fail
  refine hF1.mono ?_
  clear hF1
  rintro e w5 ⟨rfl, hb5⟩
  have hB6 := Box.mk (mono_bel hB5.out hb5 (Nat.le_refl _))
  have hS6 := (hb5.block _ (Pk.Blk.lt hS5.out)).trans hS5.out
  have hR6 := (hb5.block _ (Pk.Blk.lt hR5.out)).trans hR5.out
  obtain ⟨a0, a1, a2⟩ : w5.cell? ⟨b1, 0, none⟩ = some (.string ⟨#[97]⟩) ∧ w5.cell? ⟨b1, 1, none⟩ = some (.int .i64 0) ∧ w5.cell? ⟨b1, 2, none⟩ = some (.string (zs 32)) := ⟨Pk.Blk.cell hS6 0, Pk.Blk.cell hS6 1, Pk.Blk.cell hS6 2⟩
  obtain ⟨c0, c1, c2⟩ : w5.cell? ⟨w3.heap.size, 0, none⟩ = some (.string ⟨#[97]⟩) ∧ w5.cell? ⟨w3.heap.size, 1, none⟩ = some (.int .i64 0) ∧ w5.cell? ⟨w3.heap.size, 2, none⟩ = some (.string (zs 32)) := ⟨Pk.Blk.cell hR6 0, Pk.Blk.cell hR6 1, Pk.Blk.cell hR6 2⟩
  have heq1 := heq.out
  have hgd1 := hgd.out
  obtain ⟨b3, hb3⟩ : ∃ b, w3.heap.size = b := ⟨_, rfl⟩
  rw [hb3] at c0 c1 c2
  rw [hb3]
  generalize zs 32 = Z at *
  clear hb5 hS5 hR5 hB5 hS6 hR6 heq hgd hw4 hb3
  go_wp2_with fail
  go_ret
  exact ⟨rfl, hB6.out⟩
/-- Blocks of one type, known whole, above w0. -/
def BK (w0 : World) (t : TypeId) (l : List (Nat × List Value)) (w : World) : Prop := Below w0.heap.size w0 w ∧ ∀ p ∈ l, Pk.Blk w p.1 p.2 t
theorem BK.start (w : World) (t : TypeId) : BK w t [] w := ⟨Below.refl _ _, fun p h => by cases h⟩
theorem BK.here {w0 w w' : World} {t : TypeId} {l : List (Nat × List Value)} (h : BK w0 t l w) (hb : Below w.heap.size w w') : BK w0 t l w' := ⟨mono_bel h.1 hb (Nat.le_refl _), fun p hp => (hb.block _ (Pk.Blk.lt (h.2 p hp))).trans (h.2 p hp)⟩
theorem BK.add {w0 w : World} {t : TypeId} {l : List (Nat × List Value)} (h : BK w0 t l w) (cs : List Value) : BK w0 t ((w.heap.size, cs) :: l) (w.alloc (.cells cs.toArray t)) :=
  ⟨mono_bel h.1 (bel_alloc _ _) (Nat.le_refl _), fun p hp => by
    rcases List.mem_cons.1 hp with rfl | hp
    · exact Pk.Blk.new _ _ _
    · exact (h.here (bel_alloc _ _)).2 p hp⟩
theorem BK.get {w0 w : World} {t : TypeId} {l : List (Nat × List Value)} (h : BK w0 t l w) {b : Nat} {cs : List Value} (hm : (b, cs) ∈ l) (j : Nat) : w.cell? ⟨b, j, none⟩ = cs[j]? := (h.2 _ hm).cell j
theorem BK.get3 {w0 w : World} {t : TypeId} {l : List (Nat × List Value)} (h : BK w0 t l w) {b : Nat} {x y z : Value} (hm : (b, [x, y, z]) ∈ l) : w.cell? ⟨b, 0, none⟩ = some x ∧ w.cell? ⟨b, 1, none⟩ = some y ∧ w.cell? ⟨b, 2, none⟩ = some z := ⟨h.get hm 0, h.get hm 1, h.get hm 2⟩
set_option maxHeartbeats 6400000 in
set_option maxRecDepth 100000 in
theorem law_checkpoints (c : Ck) (s : ByteArray) (w : World) (hL : NL w.heap.size w) (ho : c.o.size ≤ 1073741824) (hr : c.r.size ≤ 1073741824) (hs : s.size ≤ 1073741824) :
    Calls Tryd.prog 3 #[ckV c, .string s] w fun e w' => e = .returned (.bool true) ∧ Below w.heap.size w w' := by
  have hA1 := Box.mk ((BK.start w 23).add [.string c.o, .int .i64 c.n, .string c.r])
  have hTl := Box.mk (fun w' (h : Below w.heap.size w w') => tells_any w.heap.size w' (hL.here (Nat.le_refl _) h) h.size)
  have hT1 := Box.mk (fun w' (h : Below w.heap.size w w') => text_any c w.heap.size w' (hL.here (Nat.le_refl _) h) h.size (by omega) (by omega))
  have hT2 := Box.mk (fun w' (h : Below w.heap.size w w') => dtext_any c w.heap.size w' (hL.here (Nat.le_refl _) h) h.size (by omega) (by omega))
  have hP1 := Box.mk (fun w' (h : Below w.heap.size w w') => parse_any s w.heap.size w' (hL.here (Nat.le_refl _) h) h.size hs)
  have hP2 := Box.mk (fun w' (h : Below w.heap.size w w') => dparse_any s w.heap.size w' (hL.here (Nat.le_refl _) h) h.size hs)
  have hneq := Box.mk neq_ck
  have hgdn := Box.mk guard_neq
  cases hp : pCk s.data.toList with
  | some d =>
    obtain ⟨hd1, hd2⟩ := pCk_some hp
    rw [prV_some hp] at hP1 hP2
    have hds : ckT d = s := ba_ext hd2
    have hdz := gO_size (gC_iff.1 hd1).1
    have hdr := (gC_iff.1 hd1).2.2.2
    have hT4 := Box.mk (fun w' (h : Below w.heap.size w w') => text_any d w.heap.size w' (hL.here (Nat.le_refl _) h) h.size (by omega) (by omega))
    rw [txtV_yes hd1, hds] at hT4
    unfold ckV at hT4
    clear hd1 hd2 hds hdz hdr hp
    cases hg : gC c with
    | true =>
      rw [txtV_yes hg] at hT1 hT2
      have hpc := pCk_by hg
      have hz := (ckT_eq c).symm
      obtain ⟨T, hT⟩ : ∃ T, ckT c = T := ⟨_, rfl⟩
      have hpt : pCk T.data.toList = some c := by rw [← hT]; exact hpc
      have hTz : T.size ≤ 1073741824 := by
        rw [← hT, hz]
        have h1 := gO_size (gC_iff.1 hg).1
        have h2 := (gC_iff.1 hg).2.2.2
        have h3 := txN_size c.n (by have := (gC_iff.1 hg).2.1; omega) (by have := (gC_iff.1 hg).2.2.1; omega)
        have h4 := hxT_size c.r
        simp only [ByteArray.size_append]
        have e1 : sT.size = 18 := rfl
        have e2 : sN.size = 1 := rfl
        omega
      have hP3 := Box.mk (fun w' (h : Below w.heap.size w w') => parse_any T w.heap.size w' (hL.here (Nat.le_refl _) h) h.size hTz)
      rw [prV_some hpt] at hP3
      rw [hT] at hT1 hT2
      unfold ckV at hT1 hT2 ⊢
      clear hpc hz hT hpt hTz hg ho hr hs hL
      go_enter Tryd.func3, Tryd.ntmps3
      go_wp2_with fail
      have hF := hTl.out _ hA1.out.1
      refine hF.mono ?_
      clear hF
      rintro e w2 ⟨rfl, hb⟩
      have hA2 := Box.mk (hA1.out.here hb)
      obtain ⟨a0, a1, a2⟩ := hA2.out.get3 (List.mem_singleton.2 rfl)
      have hF := hT1.out w2 hA2.out.1
      clear hb hA1
      go_wp2_with fail
      refine hF.mono ?_
      clear hF a0 a1 a2
      rintro e w3 ⟨rfl, hb⟩
      have hA3 := Box.mk (hA2.out.here hb)
      obtain ⟨a0, a1, a2⟩ := hA3.out.get3 (List.mem_singleton.2 rfl)
      have hF := hT2.out w3 hA3.out.1
      clear hb hA2
      go_wp2_with fail
      refine hF.mono ?_
      clear hF a0 a1 a2
      rintro e w4 ⟨rfl, hb⟩
      have hA4 := Box.mk (hA3.out.here hb)
      have hF := hP1.out w4 hA4.out.1
      clear hb hA3
      go_wp2_with fail
      refine hF.mono ?_
      clear hF
      rintro e w5 ⟨rfl, hb⟩
      have hA5 := Box.mk ((hA4.out.here hb).add [.string d.o, .int .i64 d.n, .string d.r])
      have hF := hP2.out _ hA5.out.1
      obtain ⟨b5, hb5⟩ : ∃ b, w5.heap.size = b := ⟨_, rfl⟩
      rw [hb5] at hA5
      clear hb hA4
      go_wp2_with fail
      refine hF.mono ?_
      clear hF
      rintro e w6 ⟨rfl, hb⟩
      have hA6 := Box.mk ((hA5.out.here hb).add [.string d.o, .int .i64 d.n, .string d.r])
      obtain ⟨b6, hb6⟩ : ∃ b, w6.heap.size = b := ⟨_, rfl⟩
      obtain ⟨w7, hw7⟩ : ∃ w7, w6.alloc (.cells ([.string d.o, .int .i64 d.n, .string d.r] : List Value).toArray 23) = w7 := ⟨_, rfl⟩
      rw [hb6, hw7] at hA6
      obtain ⟨c0, c1, c2⟩ := hA6.out.get3 (b := b6) (List.mem_cons.2 (.inl rfl))
      obtain ⟨d0, d1, d2⟩ := hA6.out.get3 (b := b5) (List.mem_cons.2 (.inr (List.mem_cons.2 (.inl rfl))))
      obtain ⟨a0, a1, a2⟩ := hA6.out.get3 (b := w.heap.size) (List.mem_cons.2 (.inr (List.mem_cons.2 (.inr (List.mem_singleton.2 rfl)))))
      have hne := hneq.out
      have hgd := hgdn.out
      clear hb hA5 hb5
      have hF := hP3.out w7 hA6.out.1
      go_wp2_with fail
      refine hF.mono ?_
      clear hF a0 a1 a2 c0 c1 c2 d0 d1 d2 hw7 hb6
      rintro e w8 ⟨rfl, hb⟩
      have hA7 := Box.mk ((hA6.out.here hb).add [.string c.o, .int .i64 c.n, .string c.r])
      obtain ⟨b8, hb8⟩ : ∃ b, w8.heap.size = b := ⟨_, rfl⟩
      obtain ⟨w9, hw9⟩ : ∃ w9, w8.alloc (.cells ([.string c.o, .int .i64 c.n, .string c.r] : List Value).toArray 23) = w9 := ⟨_, rfl⟩
      rw [hb8, hw9] at hA7
      obtain ⟨c0, c1, c2⟩ := hA7.out.get3 (b := b8) (List.mem_cons.2 (.inl rfl))
      obtain ⟨d0, d1, d2⟩ := hA7.out.get3 (b := b5) (List.mem_cons.2 (.inr (List.mem_cons.2 (.inr (List.mem_cons.2 (.inl rfl))))))
      obtain ⟨a0, a1, a2⟩ := hA7.out.get3 (b := w.heap.size) (List.mem_cons.2 (.inr (List.mem_cons.2 (.inr (List.mem_cons.2 (.inr (List.mem_singleton.2 rfl)))))))
      clear hb hA6
      have hF := hT4.out w9 hA7.out.1
      go_wp2_with fail
      refine hF.mono ?_
      clear hF a0 a1 a2 c0 c1 c2 d0 d1 d2
      rintro e wz ⟨rfl, hb⟩
      have hB := Box.mk (mono_bel hA7.out.1 hb (Nat.le_refl _))
      clear hb hA7
      go_wp2_with fail
      go_ret
      exact ⟨rfl, hB.out⟩
    | false =>
      rw [txtV_no hg] at hT1 hT2
      unfold ckV at hT1 hT2 ⊢
      clear hg ho hr hs hL
      go_enter Tryd.func3, Tryd.ntmps3
      go_wp2_with fail
      have hF := hTl.out _ hA1.out.1
      refine hF.mono ?_
      clear hF
      rintro e w2 ⟨rfl, hb⟩
      have hA2 := Box.mk (hA1.out.here hb)
      obtain ⟨a0, a1, a2⟩ := hA2.out.get3 (List.mem_singleton.2 rfl)
      have hF := hT1.out w2 hA2.out.1
      clear hb hA1
      go_wp2_with fail
      refine hF.mono ?_
      clear hF a0 a1 a2
      rintro e w3 ⟨rfl, hb⟩
      have hA3 := Box.mk (hA2.out.here hb)
      obtain ⟨a0, a1, a2⟩ := hA3.out.get3 (List.mem_singleton.2 rfl)
      have hF := hT2.out w3 hA3.out.1
      clear hb hA2
      go_wp2_with fail
      refine hF.mono ?_
      clear hF a0 a1 a2
      rintro e w4 ⟨rfl, hb⟩
      have hA4 := Box.mk (hA3.out.here hb)
      have hF := hP1.out w4 hA4.out.1
      clear hb hA3
      go_wp2_with fail
      refine hF.mono ?_
      clear hF
      rintro e w5 ⟨rfl, hb⟩
      have hA5 := Box.mk ((hA4.out.here hb).add [.string d.o, .int .i64 d.n, .string d.r])
      have hF := hP2.out _ hA5.out.1
      obtain ⟨b5, hb5⟩ : ∃ b, w5.heap.size = b := ⟨_, rfl⟩
      rw [hb5] at hA5
      clear hb hA4
      go_wp2_with fail
      refine hF.mono ?_
      clear hF
      rintro e w6 ⟨rfl, hb⟩
      have hA6 := Box.mk ((hA5.out.here hb).add [.string d.o, .int .i64 d.n, .string d.r])
      obtain ⟨b6, hb6⟩ : ∃ b, w6.heap.size = b := ⟨_, rfl⟩
      obtain ⟨w7, hw7⟩ : ∃ w7, w6.alloc (.cells ([.string d.o, .int .i64 d.n, .string d.r] : List Value).toArray 23) = w7 := ⟨_, rfl⟩
      rw [hb6, hw7] at hA6
      obtain ⟨c0, c1, c2⟩ := hA6.out.get3 (b := b6) (List.mem_cons.2 (.inl rfl))
      obtain ⟨d0, d1, d2⟩ := hA6.out.get3 (b := b5) (List.mem_cons.2 (.inr (List.mem_cons.2 (.inl rfl))))
      obtain ⟨a0, a1, a2⟩ := hA6.out.get3 (b := w.heap.size) (List.mem_cons.2 (.inr (List.mem_cons.2 (.inr (List.mem_singleton.2 rfl)))))
      have hne := hneq.out
      have hgd := hgdn.out
      clear hb hA5 hb5
      have hF := hT4.out w7 hA6.out.1
      go_wp2_with fail
      refine hF.mono ?_
      clear hF a0 a1 a2 c0 c1 c2 d0 d1 d2
      rintro e wz ⟨rfl, hb⟩
      have hB := Box.mk (mono_bel hA6.out.1 hb (Nat.le_refl _))
      clear hb hA6
      go_wp2_with fail
      go_ret
      exact ⟨rfl, hB.out⟩
  | none =>
    rw [prV_none hp] at hP1 hP2
    clear hp
    cases hg : gC c with
    | true =>
      rw [txtV_yes hg] at hT1 hT2
      have hpc := pCk_by hg
      have hz := (ckT_eq c).symm
      obtain ⟨T, hT⟩ : ∃ T, ckT c = T := ⟨_, rfl⟩
      have hpt : pCk T.data.toList = some c := by rw [← hT]; exact hpc
      have hTz : T.size ≤ 1073741824 := by
        rw [← hT, hz]
        have h1 := gO_size (gC_iff.1 hg).1
        have h2 := (gC_iff.1 hg).2.2.2
        have h3 := txN_size c.n (by have := (gC_iff.1 hg).2.1; omega) (by have := (gC_iff.1 hg).2.2.1; omega)
        have h4 := hxT_size c.r
        simp only [ByteArray.size_append]
        have e1 : sT.size = 18 := rfl
        have e2 : sN.size = 1 := rfl
        omega
      have hP3 := Box.mk (fun w' (h : Below w.heap.size w w') => parse_any T w.heap.size w' (hL.here (Nat.le_refl _) h) h.size hTz)
      rw [prV_some hpt] at hP3
      rw [hT] at hT1 hT2
      unfold ckV at hT1 hT2 ⊢
      clear hpc hz hT hpt hTz hg ho hr hs hL
      go_enter Tryd.func3, Tryd.ntmps3
      go_wp2_with fail
      have hF := hTl.out _ hA1.out.1
      refine hF.mono ?_
      clear hF
      rintro e w2 ⟨rfl, hb⟩
      have hA2 := Box.mk (hA1.out.here hb)
      obtain ⟨a0, a1, a2⟩ := hA2.out.get3 (List.mem_singleton.2 rfl)
      have hF := hT1.out w2 hA2.out.1
      clear hb hA1
      go_wp2_with fail
      refine hF.mono ?_
      clear hF a0 a1 a2
      rintro e w3 ⟨rfl, hb⟩
      have hA3 := Box.mk (hA2.out.here hb)
      obtain ⟨a0, a1, a2⟩ := hA3.out.get3 (List.mem_singleton.2 rfl)
      have hF := hT2.out w3 hA3.out.1
      clear hb hA2
      go_wp2_with fail
      refine hF.mono ?_
      clear hF a0 a1 a2
      rintro e w4 ⟨rfl, hb⟩
      have hA4 := Box.mk (hA3.out.here hb)
      have hF := hP1.out w4 hA4.out.1
      clear hb hA3
      go_wp2_with fail
      refine hF.mono ?_
      clear hF
      rintro e w5 ⟨rfl, hb⟩
      have hA5 := Box.mk ((hA4.out.here hb).add [.string ⟨#[]⟩, .int .i64 0, .string ⟨#[]⟩])
      have hF := hP2.out _ hA5.out.1
      obtain ⟨b5, hb5⟩ : ∃ b, w5.heap.size = b := ⟨_, rfl⟩
      rw [hb5] at hA5
      clear hb hA4
      go_wp2_with fail
      refine hF.mono ?_
      clear hF
      rintro e w6 ⟨rfl, hb⟩
      have hA6 := Box.mk ((hA5.out.here hb).add [.string ⟨#[]⟩, .int .i64 0, .string ⟨#[]⟩])
      obtain ⟨b6, hb6⟩ : ∃ b, w6.heap.size = b := ⟨_, rfl⟩
      rw [hb6] at hA6
      obtain ⟨c0, c1, c2⟩ := hA6.out.get3 (b := b6) (List.mem_cons.2 (.inl rfl))
      obtain ⟨d0, d1, d2⟩ := hA6.out.get3 (b := b5) (List.mem_cons.2 (.inr (List.mem_cons.2 (.inl rfl))))
      obtain ⟨a0, a1, a2⟩ := hA6.out.get3 (b := w.heap.size) (List.mem_cons.2 (.inr (List.mem_cons.2 (.inr (List.mem_singleton.2 rfl)))))
      have hne := hneq.out
      have hgd := hgdn.out
      clear hb hA5 hb5
      have hF := hP3.out _ hA6.out.1
      go_wp2_with fail
      refine hF.mono ?_
      clear hF a0 a1 a2 c0 c1 c2 d0 d1 d2 hb6
      rintro e w8 ⟨rfl, hb⟩
      have hA7 := Box.mk ((hA6.out.here hb).add [.string c.o, .int .i64 c.n, .string c.r])
      obtain ⟨b8, hb8⟩ : ∃ b, w8.heap.size = b := ⟨_, rfl⟩
      obtain ⟨w9, hw9⟩ : ∃ w9, w8.alloc (.cells ([.string c.o, .int .i64 c.n, .string c.r] : List Value).toArray 23) = w9 := ⟨_, rfl⟩
      rw [hb8, hw9] at hA7
      obtain ⟨c0, c1, c2⟩ := hA7.out.get3 (b := b8) (List.mem_cons.2 (.inl rfl))
      obtain ⟨d0, d1, d2⟩ := hA7.out.get3 (b := b5) (List.mem_cons.2 (.inr (List.mem_cons.2 (.inr (List.mem_cons.2 (.inl rfl))))))
      obtain ⟨a0, a1, a2⟩ := hA7.out.get3 (b := w.heap.size) (List.mem_cons.2 (.inr (List.mem_cons.2 (.inr (List.mem_cons.2 (.inr (List.mem_singleton.2 rfl)))))))
      clear hb hA6
      have hB := Box.mk hA7.out.1
      clear hA7
      go_wp2_with fail
      go_ret
      exact ⟨rfl, hB.out⟩
    | false =>
      rw [txtV_no hg] at hT1 hT2
      unfold ckV at hT1 hT2 ⊢
      clear hg ho hr hs hL
      go_enter Tryd.func3, Tryd.ntmps3
      go_wp2_with fail
      have hF := hTl.out _ hA1.out.1
      refine hF.mono ?_
      clear hF
      rintro e w2 ⟨rfl, hb⟩
      have hA2 := Box.mk (hA1.out.here hb)
      obtain ⟨a0, a1, a2⟩ := hA2.out.get3 (List.mem_singleton.2 rfl)
      have hF := hT1.out w2 hA2.out.1
      clear hb hA1
      go_wp2_with fail
      refine hF.mono ?_
      clear hF a0 a1 a2
      rintro e w3 ⟨rfl, hb⟩
      have hA3 := Box.mk (hA2.out.here hb)
      obtain ⟨a0, a1, a2⟩ := hA3.out.get3 (List.mem_singleton.2 rfl)
      have hF := hT2.out w3 hA3.out.1
      clear hb hA2
      go_wp2_with fail
      refine hF.mono ?_
      clear hF a0 a1 a2
      rintro e w4 ⟨rfl, hb⟩
      have hA4 := Box.mk (hA3.out.here hb)
      have hF := hP1.out w4 hA4.out.1
      clear hb hA3
      go_wp2_with fail
      refine hF.mono ?_
      clear hF
      rintro e w5 ⟨rfl, hb⟩
      have hA5 := Box.mk ((hA4.out.here hb).add [.string ⟨#[]⟩, .int .i64 0, .string ⟨#[]⟩])
      have hF := hP2.out _ hA5.out.1
      obtain ⟨b5, hb5⟩ : ∃ b, w5.heap.size = b := ⟨_, rfl⟩
      rw [hb5] at hA5
      clear hb hA4
      go_wp2_with fail
      refine hF.mono ?_
      clear hF
      rintro e w6 ⟨rfl, hb⟩
      have hA6 := Box.mk ((hA5.out.here hb).add [.string ⟨#[]⟩, .int .i64 0, .string ⟨#[]⟩])
      obtain ⟨b6, hb6⟩ : ∃ b, w6.heap.size = b := ⟨_, rfl⟩
      rw [hb6] at hA6
      obtain ⟨c0, c1, c2⟩ := hA6.out.get3 (b := b6) (List.mem_cons.2 (.inl rfl))
      obtain ⟨d0, d1, d2⟩ := hA6.out.get3 (b := b5) (List.mem_cons.2 (.inr (List.mem_cons.2 (.inl rfl))))
      obtain ⟨a0, a1, a2⟩ := hA6.out.get3 (b := w.heap.size) (List.mem_cons.2 (.inr (List.mem_cons.2 (.inr (List.mem_singleton.2 rfl)))))
      have hne := hneq.out
      have hgd := hgdn.out
      clear hb hA5 hb5
      have hB := Box.mk hA6.out.1
      clear hA6
      go_wp2_with fail
      go_ret
      exact ⟨rfl, hB.out⟩
end Go.Proofs.YtdjppgmaokcgiaaDoor.Nt
