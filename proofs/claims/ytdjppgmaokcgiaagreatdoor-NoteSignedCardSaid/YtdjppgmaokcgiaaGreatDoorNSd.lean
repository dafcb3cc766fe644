/- Walks of law 11's tells and of NoteCheckpoints. | A key of height 0 of the document's, whose blocks are all new: what changes no block as new as the key keeps it. | What NoteSigned keeps beside each other: the note's cell, its signatures' row, the IDs' row, a key. -/
import Derived.Laws.StructEq
import Derived.Great.BuildSlice
import Derived.Test.YtdjppgmaokcgiaaGreatDoorNMx
import Derived.Test.YtdjppgmaokcgiaaGreatDoorMKq
namespace Go.Proofs.YtdjppgmaokcgiaaGreatDoor.Nt
open Go Go.RowKit

set_option maxRecDepth 100000 in
theorem eql_ck (a : ByteArray) (n : Int) (b : ByteArray) (w : World) : (binOp .eql 23 (.agg #[.string a, .int .i64 n, .string b]) (.agg #[.string a, .int .i64 n, .string b])).run Tryz.prog w = .ok (.bool true) w := by
  have hS : Tryz.prog.underlying 23 = some (.struct (Tryz.prog.fieldsOf 23)) := by kernel_rfl
  have hp : Tryz.prog.stoodInHeld 23 = false := by kernel_rfl
  have u9 := Tryz.underlying9
  have u3 := Tryz.underlying3
  rw [run_eql_struct, show (10000 : Nat) = 9999 + 1 from rfl, run_equalIn_agg w 9999 23 _ _ hS hp]
  simp only [Program.fieldsOf, Tryz.underlying23]
  go_simp
set_option maxRecDepth 100000 in
theorem neq_ck (a : ByteArray) (n : Int) (b : ByteArray) (w : World) : (binOp .neq 23 (.agg #[.string a, .int .i64 n, .string b]) (.agg #[.string a, .int .i64 n, .string b])).run Tryz.prog w = .ok (.bool false) w := by
  have hS : Tryz.prog.underlying 23 = some (.struct (Tryz.prog.fieldsOf 23)) := by kernel_rfl
  have hp : Tryz.prog.stoodInHeld 23 = false := by kernel_rfl
  have u9 := Tryz.underlying9
  have u3 := Tryz.underlying3
  rw [run_neq_struct, show (10000 : Nat) = 9999 + 1 from rfl, run_equalIn_agg w 9999 23 _ _ hS hp]
  simp only [Program.fieldsOf, Tryz.underlying23]
  go_simp
set_option maxRecDepth 100000 in
theorem guard_eql (x y : Operand) (xs ys : Array Value) (w : World) : (eqGuard .eql 23 x y (.agg xs) (.agg ys)).run Tryz.prog w = .ok () w :=
  run_eqGuard_agg w .eql 23 x y xs ys (by kernel_rfl)
set_option maxRecDepth 100000 in
theorem guard_neq (x y : Operand) (xs ys : Array Value) (w : World) : (eqGuard .neq 23 x y (.agg xs) (.agg ys)).run Tryz.prog w = .ok () w :=
  run_eqGuard_agg w .neq 23 x y xs ys (by kernel_rfl)
section
variable {P : Program} {w : World} {ops : Array Oper} {rest : List Oper} {o : Oper} {a : Act} {Q : Exit → Act → World → Prop}
theorem wpList_wanted (hw : Region.wanted o (yielded ops a.tmps) = true) (h : ∀ K : Act → World → Prop, (∀ a w, wpList P ops Q rest a w → K a w) → o.wp P a w K Q) : wpList P ops Q (o :: rest) a w :=
  wpList_step fun K hK => by rw [if_pos hw]; exact h K hK
theorem wpList_makeG (hw : Region.wanted o (yielded ops a.tmps) = true) (l c : Operand) (t : TypeId) (hop : o.op = Op.makeSlice t l c) (base : Nat) (e : TypeId) (i : TypeInfo) (z : Value) (size : Nat) (h1 : P.underlying t = some (.slice e)) (h2 : P.info? e = some i) (h3 : i.zero = some z) (h4 : i.size = size)
    (kl kc : IntKind) (L C : Int) (n : Nat) (hl : a.eval l = .int kl L) (hc : a.eval c = .int kc C) (hL : L = (n : Int)) (hC : C = (n : Int)) (b2 : i.bytes * n ≤ 281474976710656) (b3 : n ≤ maxLen) (b4 : base ≤ w.heap.size)
    (k : ∀ w', w'.ownsRow base e size (.slice (some ⟨w.heap.size, 0, none⟩) n n) n (madeCells z.cells (n * size)).toList → w.grownBy w' none → wpList P ops Q rest (a.put o.dst (.slice (some ⟨w.heap.size, 0, none⟩) n n)) w') : wpList P ops Q (o :: rest) a w := by
  refine wpList_wanted hw fun K hK => ?_
  obtain ⟨w', hrun, r1, r2⟩ := run_make_full (P := P) w base t e i z size h1 h2 h3 h4 kl kc n b2 b3 b4
  subst hL
  subst hC
  unfold Oper.wp
  simp [execOp, hop, hl, hc, hrun, Result.andThen]
  exact hK _ _ (k w' r1 r2)
end
def zs (n : Nat) : ByteArray := bT (List.replicate n 0)
theorem zeros_convG (w : World) (g base n : Nat) (h : w.ownsRow base 5 1 (.slice (some ⟨g, 0, none⟩) n n) n (madeCells (Value.int .u8 0).cells (n * 1)).toList) :
    (convert 24 9 (.slice (some ⟨g, 0, none⟩) n n)).run Tryz.prog w = .ok (.string (zs n)) w := by
  have e : (madeCells (Value.int .u8 0).cells (n * 1)).toList = (List.replicate n (0 : UInt8)).map Pk.yc := by
    have := toList_madeCells_one (.int .u8 0) (n * 1)
    rw [Nat.mul_one] at this
    rw [Nat.mul_one, List.map_replicate]
    exact this
  rw [e] at h
  have h2 : w.ownsRow base 5 1 (.slice (some ⟨g, 0, none⟩) n n) (List.replicate n (0 : UInt8)).length ((List.replicate n (0 : UInt8)).map Pk.yc) := by rw [List.length_replicate]; exact h
  exact own_text h2
theorem infoY : (Tryz.prog.info? 5).map (fun i => (i.zero, i.size, i.bytes)) = some (some (.int .u8 0), 1, 1) := by kernel_rfl
theorem grown_below {w w' : World} (hg : w.grownBy w' none) : Below w.heap.size w w' := ⟨hg.os, hg.tape, hg.output, hg.size, fun k hk => hg.block k hk (by simp)⟩
def ck0 : Ck := ⟨⟨#[97]⟩, 0, zs 32⟩
theorem ck0_good : gC ck0 = true := by decide +kernel
theorem ck0_size : (ckT ck0).size = 87 := by
  show (ckL ck0).length = 87
  unfold ckL ck0 lTitle
  have e : Lib.itoa 0 = [48] := by rw [itoa_of (by omega)]; rw [Lib.decDigits]; rfl
  simp only [jn, List.flatMap_cons, List.flatMap_nil, List.append_nil, List.length_append, hexL_length, e]
  rfl
theorem tn_good : gN (⟨#[116, 10]⟩, []) = true := by decide +kernel
theorem tn_bytes : (⟨(byN (⟨#[116, 10]⟩, [])).toArray⟩ : ByteArray) = ⟨#[116, 10, 10]⟩ := rfl
set_option maxHeartbeats 6400000 in
set_option maxRecDepth 100000 in
theorem tells_any (B : Nat) (w : World) (hL : NL B w) (hB : B ≤ w.heap.size) :
    Calls Tryz.prog 4 #[] w fun e w' => e = .returned (.bool true) ∧ Below w.heap.size w w' := by
  obtain ⟨i5, hi, hz0, hz1, hz2⟩ := info_parts infoY
  have hH := Box.mk (And.intro hi (And.intro hz0 (And.intro hz1 hz2)))
  have hT := Box.mk (fun w' (h : Below w.heap.size w w') => text_any ck0 B w' (hL.here hB h) (Nat.le_trans hB h.size) (by decide) (by decide))
  rw [txtV_yes ck0_good] at hT
  have hsz := ck0_size
  obtain ⟨T, hTe⟩ : ∃ T, ckT ck0 = T := ⟨_, rfl⟩
  have hpc : pCk T.data.toList = some ck0 := by rw [← hTe]; exact pCk_by ck0_good
  have hP := Box.mk (fun w' (h : Below w.heap.size w w') => parse_any T B w' (hL.here hB h) (Nat.le_trans hB h.size) (by rw [← hTe, ck0_size]; decide))
  rw [prV_some hpc] at hP
  have hF := Box.mk (fun w' (h : Below w.heap.size w w') => format_any ⟨#[116, 10]⟩ none 0 0 [] B w' (hL.here hB h) (Nat.le_trans hB h.size) (by decide) ⟨none, 0, rfl, fun h => absurd h (Nat.lt_irrefl 0)⟩ rfl (by decide) (fun x h => by cases h))
  rw [fmV_yes tn_good, tn_bytes] at hF
  rw [hTe] at hT hsz
  unfold ck0 ckV at hT
  unfold ck0 at hP
  simp only at hT hP
  have hs87 : (T.size : Int) = 87 := by omega
  have heq := Box.mk eql_ck
  have hgd := Box.mk guard_eql
  clear hi hz0 hz1 hz2 hL hB hpc hTe hsz
  go_enter Tryz.func4, Tryz.ntmps4
  go_wp2_with (at_make; refine wpList_makeG rfl (.const (.int .i64 32)) (.const (.int .i64 32)) 24 rfl w.heap.size 5 i5 (.int .u8 0) 1 Tryz.underlying24 hH.out.1 hH.out.2.1 hH.out.2.2.1 .i64 .i64 _ _ 32 rfl rfl rfl rfl (by rw [hH.out.2.2.2]; omega) (by unfold maxLen; omega) (Nat.le_refl _) ?_; intro w1 hown hg; have hconv := zeros_convG w1 _ _ _ hown; have hB1 := Box.mk (grown_below hg); clear hown hg)
  have hT1 := hT.out _ (mono_bel hB1.out (bel_alloc w1 (.cells #[.string ⟨#[97]⟩, .int .i64 0, .string (zs 32)] 23)) (Nat.le_refl _))
  have hS1 := Box.mk (Pk.Blk.new w1 [.string ⟨#[97]⟩, .int .i64 0, .string (zs 32)] 23)
  have hB2 := Box.mk (mono_bel hB1.out (bel_alloc w1 (.cells #[.string ⟨#[97]⟩, .int .i64 0, .string (zs 32)] 23)) (Nat.le_refl _))
  refine hT1.mono ?_
  clear hT1 hT hB1 hconv
  rintro e w2 ⟨rfl, hb2⟩
  have hS2 := Box.mk ((hb2.block _ (Pk.Blk.lt hS1.out)).trans hS1.out)
  have hB3 := Box.mk (mono_bel hB2.out hb2 (Nat.le_refl _))
  have hP1 := hP.out w2 hB3.out
  clear hb2 hS1 hB2 hP
  obtain ⟨b1, hb1⟩ : ∃ b, w1.heap.size = b := ⟨_, rfl⟩
  rw [hb1] at hS2
  rw [hb1]
  clear hb1
  go_wp2_with fail
  refine hP1.mono ?_
  clear hP1
  rintro e w3 ⟨rfl, hb3⟩
  have hS3 := Box.mk ((hb3.block _ (Pk.Blk.lt hS2.out)).trans hS2.out)
  have hB4 := Box.mk (mono_bel hB3.out hb3 (Nat.le_refl _))
  obtain ⟨w4, hw4⟩ : ∃ w4, w3.alloc (.cells #[.string ⟨#[97]⟩, .int .i64 0, .string (zs 32)] 23) = w4 := ⟨_, rfl⟩
  have hB5 : Box (Below w.heap.size w w4) := ⟨by rw [← hw4]; exact mono_bel hB4.out (bel_alloc _ _) (Nat.le_refl _)⟩
  have hS5 : Box (Pk.Blk w4 b1 [.string ⟨#[97]⟩, .int .i64 0, .string (zs 32)] 23) := ⟨by rw [← hw4]; exact ((bel_alloc w3 _).block _ (Pk.Blk.lt hS3.out)).trans hS3.out⟩
  have hR5 : Box (Pk.Blk w4 w3.heap.size [.string ⟨#[97]⟩, .int .i64 0, .string (zs 32)] 23) := ⟨by rw [← hw4]; exact Pk.Blk.new w3 _ _⟩
  have hF1 := hF.out w4 hB5.out
  clear hb3 hS2 hB3 hF hS3 hB4
  go_wp2_with fail
  refine hF1.mono ?_
  clear hF1
  rintro e w5 ⟨rfl, hb5⟩
  have hB6 := Box.mk (mono_bel hB5.out hb5 (Nat.le_refl _))
  have hS6 := (hb5.block _ (Pk.Blk.lt hS5.out)).trans hS5.out
  have hR6 := (hb5.block _ (Pk.Blk.lt hR5.out)).trans hR5.out
  obtain ⟨a0, a1, a2⟩ : w5.cell? ⟨b1, 0, none⟩ = some (.string ⟨#[97]⟩) ∧ w5.cell? ⟨b1, 1, none⟩ = some (.int .i64 0) ∧ w5.cell? ⟨b1, 2, none⟩ = some (.string (zs 32)) := ⟨Pk.Blk.cell hS6 0, Pk.Blk.cell hS6 1, Pk.Blk.cell hS6 2⟩
  obtain ⟨c0, c1, c2⟩ : w5.cell? ⟨w3.heap.size, 0, none⟩ = some (.string ⟨#[97]⟩) ∧ w5.cell? ⟨w3.heap.size, 1, none⟩ = some (.int .i64 0) ∧ w5.cell? ⟨w3.heap.size, 2, none⟩ = some (.string (zs 32)) := ⟨Pk.Blk.cell hR6 0, Pk.Blk.cell hR6 1, Pk.Blk.cell hR6 2⟩
  have heq1 := heq.out
  have hgd1 := hgd.out
  obtain ⟨b3, hb3⟩ : ∃ b, w3.heap.size = b := ⟨_, rfl⟩
  rw [hb3] at c0 c1 c2
  rw [hb3]
  generalize zs 32 = Z at *
  clear hb5 hS5 hR5 hB5 hS6 hR6 heq hgd hw4 hb3
  go_wp2_with fail
  go_ret
  exact ⟨rfl, hB6.out⟩
/-- Blocks of one type, known whole, above w0. -/
def BK (w0 : World) (t : TypeId) (l : List (Nat × List Value)) (w : World) : Prop := Below w0.heap.size w0 w ∧ ∀ p ∈ l, Pk.Blk w p.1 p.2 t
theorem BK.start (w : World) (t : TypeId) : BK w t [] w := ⟨Below.refl _ _, fun p h => by cases h⟩
theorem BK.here {w0 w w' : World} {t : TypeId} {l : List (Nat × List Value)} (h : BK w0 t l w) (hb : Below w.heap.size w w') : BK w0 t l w' := ⟨mono_bel h.1 hb (Nat.le_refl _), fun p hp => (hb.block _ (Pk.Blk.lt (h.2 p hp))).trans (h.2 p hp)⟩
theorem BK.add {w0 w : World} {t : TypeId} {l : List (Nat × List Value)} (h : BK w0 t l w) (cs : List Value) : BK w0 t ((w.heap.size, cs) :: l) (w.alloc (.cells cs.toArray t)) :=
  ⟨mono_bel h.1 (bel_alloc _ _) (Nat.le_refl _), fun p hp => by
    rcases List.mem_cons.1 hp with rfl | hp
    · exact Pk.Blk.new _ _ _
    · exact (h.here (bel_alloc _ _)).2 p hp⟩
theorem BK.get {w0 w : World} {t : TypeId} {l : List (Nat × List Value)} (h : BK w0 t l w) {b : Nat} {cs : List Value} (hm : (b, cs) ∈ l) (j : Nat) : w.cell? ⟨b, j, none⟩ = cs[j]? := (h.2 _ hm).cell j
theorem BK.get3 {w0 w : World} {t : TypeId} {l : List (Nat × List Value)} (h : BK w0 t l w) {b : Nat} {x y z : Value} (hm : (b, [x, y, z]) ∈ l) : w.cell? ⟨b, 0, none⟩ = some x ∧ w.cell? ⟨b, 1, none⟩ = some y ∧ w.cell? ⟨b, 2, none⟩ = some z := ⟨h.get hm 0, h.get hm 1, h.get hm 2⟩
end Go.Proofs.YtdjppgmaokcgiaaGreatDoor.Nt

namespace Go.Proofs.YtdjppgmaokcgiaaGreatDoor
open Go Go.RowKit

/-- A key of height 0, its blocks all from B on. -/
def Key0 (B : Nat) (w : World) (b : Nat) (s : ByteArray) : Prop :=
  QKey w b s 0 0 ∧ ∀ (S : Nat → Prop) (w' : World), Pk.Chg S w w' → (∀ k, B ≤ k → ¬ S k) → QKey w' b s 0 0
set_option maxHeartbeats 3200000 in
set_option maxRecDepth 100000 in
theorem r6new0 (s : ByteArray) (w : World) (hs : s.size ≤ 140737488351232) :
    Calls Tryz.prog 6 #[.string s, .int .i64 0] w fun e w' => e = .returned (.tuple #[.pointer (some ⟨w.heap.size, 0, none⟩), .int .i64 0]) ∧ Key0 w.heap.size w' w.heap.size s ∧ Below w.heap.size w w' := by
  have hP := fun n w1 (hn : n < 65536) => rpublic_ok s n w1 hn hs
  obtain ⟨iT, hiT, hzT, hsT, hbT⟩ := info_parts info_s
  obtain ⟨iS, hiS, hzS, hsS, hbS⟩ := info_parts info_ss
  have hT := Box.mk (And.intro hiT (And.intro hzT (And.intro hsT hbT)))
  have hS := Box.mk (And.intro hiS (And.intro hzS (And.intro hsS hbS)))
  obtain ⟨w1, hw1⟩ : ∃ w1, w.alloc (.cells #[.string s, .int .i64 0, .slice none 0 0, .int .i64 0] 53) = w1 := ⟨_, rfl⟩
  have hL0 : LowAt w w1 s 0 0 (.slice none 0 0) := by
    refine ⟨Pk.Row.nil _ _ _, (fun k hk => by cases hk), ?_, ?_⟩
    · rw [← hw1]; exact Blk.new w (qcells s 0 (.slice none 0 0) 0) _
    · rw [← hw1]; exact (Below.refl _ _).alloc (Nat.le_refl _) _
  replace hL0 := Box.mk hL0
  replace hP := Box.mk hP
  clear hiT hzT hsT hbT hiS hzS hsS hbS hs
  go_enter Tryz.func6, Tryz.ntmps6
  go_wp2_with fail
  replace hw1 := Box.mk hw1
  go_loopw [7, 8] (fun v q wr => ∃ n : Nat, n ≤ 1 ∧ q = .int .i64 (n : Int) ∧ Box (LowAt w wr s 0 n v)) (fun _ q _ => 1 - (intOf q).toNat)
  case atStart => exact ⟨0, by omega, rfl, hL0⟩
  case round =>
    clear hL0
    obtain ⟨n, hn, rfl, hL⟩ := hrel
    by_cases hlt : n < 1
    · have hF := hP.out n wr (by omega)
      obtain ⟨x, hx⟩ : ∃ x, pubT s n = x := ⟨_, rfl⟩
      rw [hx] at hF
      replace hx := Box.mk hx
      have hii : (n : Int) < 1 := by omega
      go_wp2_with fail
      refine hF.mono ?_
      clear hF
      rintro e w2 ⟨rfl, hb2⟩
      have hR2 := hL.out.row.chg (chg0 (S := fun _ => False) hb2) (fun _ _ h => h)
      replace hb2 := Box.mk hb2
      obtain ⟨w3, hw3⟩ : ∃ w3, w2.alloc (.cells #[.string x] 9) = w3 := ⟨_, rfl⟩
      have hb3 : Below w2.heap.size w2 w3 := by rw [← hw3]; exact (Below.refl _ _).alloc (Nat.le_refl _) _
      have hR3 := Box.mk (hR2.chg (chg0 (S := fun _ => False) hb3) (fun _ _ h => h))
      have hc3 := Box.mk (one_new w2 (.string x) 9)
      rw [hw3] at hc3
      have ho3 : Box (∀ u ∈ [Value.string x], u.oneCell' = true) := ⟨by simp [Value.oneCell']⟩
      have hlen : Box (n + 1 ≤ maxLen ∧ (n + 1) * 16 ≤ 140737488355328) := ⟨by unfold maxLen; omega, by omega⟩
      replace hb3 := Box.mk hb3
      clear hR2
      go_wp2_with (refine Pk.wpList_pushR rfl (.tmp 36) (.tmp 38) 29 9 rfl iT (.string ⟨#[]⟩) 1 16 Tryz.underlying29 hT.out.1 hT.out.2.1 hT.out.2.2.1 hT.out.2.2.2 rfl (by omega) _ n (tx s 0 n) rfl hR3.out ⟨w2.heap.size, 0, none⟩ 1 1 [.string x] rfl rfl hc3.out ho3.out hlen.out.1 hlen.out.2 ?_; intro vo w4 hpush)
      have hN := hL.out.push hb2.out hb3.out hx.out hpush
      exact ⟨⟨n + 1, by omega, by go_num, ⟨hN⟩⟩, by simp [intOf]; omega⟩
    · obtain rfl : n = 1 := by omega
      clear hP
      have hLr := hL.out.row
      obtain ⟨g, c, rfl, hgl⟩ := hLr.some (Nat.le_refl 1)
      have hgo : Box (w.heap.size < g) := ⟨hL.out.own g rfl⟩
      have c2 : wr.cell? ⟨w.heap.size, 2, none⟩ = some (.slice none 0 0) := hL.out.blk.cell 2
      obtain ⟨w2, hw2⟩ : ∃ w2, wr.alloc (.cells #[.slice (some ⟨g, 0, none⟩) 1 c] 29) = w2 := ⟨_, rfl⟩
      have hb2 : Below wr.heap.size wr w2 := by rw [← hw2]; exact (Below.refl _ _).alloc (Nat.le_refl _) _
      have hc3 := Box.mk (one_new wr (.slice (some ⟨g, 0, none⟩) 1 c) 29)
      rw [hw2] at hc3
      have ho3 : Box (∀ u ∈ [Value.slice (some ⟨g, 0, none⟩) 1 c], u.oneCell' = true) := ⟨by simp [Value.oneCell']⟩
      have hK2 := Box.mk (hL.out.blk.below hb2 hL.out.blk.lt)
      have hn0 : Box (Pk.Row w2 29 1 (.slice none 0 0) 0 []) := ⟨Pk.Row.nil _ _ _⟩
      replace hb2 := Box.mk hb2
      clear hgl hLr
      go_wp2_with (refine Pk.wpList_pushR rfl (.tmp 44) (.tmp 46) 51 29 rfl iS (.slice none 0 0) 1 24 Tryz.underlying51 hS.out.1 hS.out.2.1 hS.out.2.2.1 hS.out.2.2.2 rfl (by omega) _ 0 [] rfl hn0.out ⟨wr.heap.size, 0, none⟩ 1 1 [.slice (some ⟨g, 0, none⟩) 1 c] rfl rfl hc3.out ho3.out (by decide) (by decide) ?_; intro vo w3 hpush; obtain ⟨bl, cl, rfl, hbl⟩ := hpush.row.some (Nat.succ_pos 0); have hK3 := Box.mk ((nil_pushed hpush).blk hK2.out (fun h => h)); have c3 : w3.cell? ⟨w.heap.size, 2, none⟩ = some (.slice none 0 0) := hK3.out.cell 2; have f3 := hK3.out.free 2; clear hbl)
      obtain ⟨k4, hbl4, hB4⟩ := QPart.start (show (2 : Nat) ^ 0 = 1 from rfl) hL.out hb2.out hpush
      obtain ⟨w4, hw4⟩ : ∃ w4, w3.setCell ⟨w.heap.size, 2, none⟩ (.slice (some ⟨bl, 0, none⟩) 1 cl) = w4 := ⟨_, rfl⟩
      rw [hw4] at k4 hB4 ⊢
      replace k4 := Box.mk k4
      replace hbl4 := Box.mk hbl4
      replace hB4 := Box.mk hB4
      clear hpush hw4 hK3 c3 f3 hn0 hK2 ho3 hc3 hw2 hb2 c2 hL hn hlt hw1
      go_loopw [7, 11] (fun v q wr => v = .slice (some ⟨g, 0, none⟩) 1 c ∧ q = .int .i64 0 ∧ wr = w4) (fun _ _ _ => 0)
      case atStart => exact ⟨rfl, rfl, rfl⟩
      case round =>
        obtain ⟨rfl, rfl, rfl⟩ := hrel
        go_wp2_with fail
        go_returns
        refine ⟨rfl, ⟨⟨⟨bl, cl, _, k4.out⟩, by omega⟩, fun S w' hc hS => ?_⟩, hB4.out⟩
        have q := k4.out
        refine ⟨⟨bl, cl, _, hc.blk q.blk (hS _ (Nat.le_refl _)), q.row.chg hc fun k hk e => ?_, fun i hi => ?_⟩, by omega⟩
        · obtain rfl : bl = k := by simpa [Value.ownBlock] using hk
          exact hS bl (by have := hbl4.out; omega) e
        · obtain ⟨g2, c2, e1, hr⟩ := q.lev i hi
          obtain rfl : i = 0 := by omega
          have e2 : g = g2 := by
            simp only [Nat.sub_self, Nat.pow_zero] at e1
            cases e1
            rfl
          refine ⟨g2, c2, e1, hr.chg hc fun k hk e => ?_⟩
          obtain rfl : g2 = k := by simpa [Value.ownBlock] using hk
          exact hS g2 (by have := hgo.out; omega) e
end Go.Proofs.YtdjppgmaokcgiaaGreatDoor

namespace Go.Proofs.YtdjppgmaokcgiaaGreatDoor.Nt
open Go Go.RowKit

theorem sig_chg_ty {w w' : World} {n m : Nat} {v v' : Value} {xs ys : List Value} (h : Pk.Row w 39 2 v n xs) (_ : Pk.PushedRow w 39 2 v m ys v' w') (i : Nat) (t : TypeId) (hi : v.ownBlock = some i) (hty : Ty w i t) : t = 39 := by
  obtain ⟨_, ⟨rfl, _⟩ | ⟨g, cap, cur, rfl, _, hg, _⟩⟩ := h
  · cases hi
  · obtain rfl : g = i := by simpa [Value.ownBlock] using hi
    exact hty.inj ⟨_, hg⟩
theorem ids_apart {B b : Nat} {w : World} {v : Value} {ids : List ByteArray} {cs : List Value} {t : TypeId} (h : TxR B w v ids) (hb : Pk.Blk w b cs t) (ht : t ≠ 9) : v.ownBlock ≠ some b := by
  intro e
  obtain ⟨_, ⟨rfl, _⟩ | ⟨g, cap, cur, rfl, _, hg, _⟩⟩ := h
  · cases e
  · obtain rfl : g = b := by simpa [Value.ownBlock] using e
    unfold Pk.Blk at hb
    rw [hb] at hg
    cases hg
    exact ht rfl
theorem sig_blk {w : World} {b : Nat} {x : ByteArray × ByteArray} (h : Pk.Blk w b (sigC x) 39) : SigsAt w (.slice (some ⟨b, 0, none⟩) 1 1) [x] := by
  refine ⟨_, _, rfl, fun _ => ⟨b, 0, rfl, h.lt, fun i hi => ?_⟩⟩
  obtain rfl : i = 0 := by simpa using hi
  exact ⟨h.cell 0, h.cell 1⟩
/-- The note's cell, the IDs. -/
structure LA (w0 : World) (bn : Nat) (T : ByteArray) (v9 : Value) (ids : List ByteArray) (v : Value) (w : World) : Prop where
  note : Pk.Blk w bn [.string T, v] 32
  ids : TxR w0.heap.size w v9 ids
  bel : Below w0.heap.size w0 w
  lt : w0.heap.size ≤ bn
theorem LA.on {w0 w w' : World} {bn : Nat} {T : ByteArray} {v9 v : Value} {ids : List ByteArray} (h : LA w0 bn T v9 ids v w) (hb : Below w.heap.size w w') : LA w0 bn T v9 ids v w' :=
  ⟨(hb.block _ h.note.lt).trans h.note, h.ids.here hb, mono_bel h.bel hb (Nat.le_refl _), h.lt⟩
/-- .. and the signatures' row. -/
structure LR (w0 : World) (bn : Nat) (T : ByteArray) (v9 : Value) (ids : List ByteArray) (v : Value) (sg : List (ByteArray × ByteArray)) (w : World) : Prop where
  a : LA w0 bn T v9 ids v w
  row : SgRow w0 w v sg
theorem LR.on {w0 w w' : World} {bn : Nat} {T : ByteArray} {v9 v : Value} {ids : List ByteArray} {sg : List (ByteArray × ByteArray)} (h : LR w0 bn T v9 ids v sg w) (hb : Below w.heap.size w w') : LR w0 bn T v9 ids v sg w' := ⟨h.a.on hb, h.row.here hb⟩
/-- .. a key beside; u: the row of signatures, v: what the note's cell says of it. -/
structure LB (w0 : World) (bn : Nat) (T : ByteArray) (v9 : Value) (ids : List ByteArray) (v : Value) (kb : Nat) (s : ByteArray) (w : World) : Prop where
  a : LA w0 bn T v9 ids v w
  key : QKey w kb s 0 0
theorem LB.on {w0 w w' : World} {bn kb : Nat} {T s : ByteArray} {v9 v : Value} {ids : List ByteArray} (h : LB w0 bn T v9 ids v kb s w) (hb : Below w.heap.size w w') : LB w0 bn T v9 ids v kb s w' := ⟨h.a.on hb, h.key.here hb⟩
def LC (w0 : World) (bn : Nat) (T : ByteArray) (v9 : Value) (ids : List ByteArray) (v : Value) (kb : Nat) (s : ByteArray) (u : Value) (sg : List (ByteArray × ByteArray)) : World → Prop := fun w => LB w0 bn T v9 ids v kb s w ∧ SgRow w0 w u sg
def LD (w0 : World) (bn : Nat) (T : ByteArray) (v9 : Value) (ids : List ByteArray) (v : Value) (kb : Nat) (s : ByteArray) (u : Value) (sg : List (ByteArray × ByteArray)) (bq : Nat) (x : ByteArray × ByteArray) : World → Prop := fun w => LC w0 bn T v9 ids v kb s u sg w ∧ Pk.Blk w bq (sigC x) 39
section
variable {w0 w w' : World} {bn kb : Nat} {T s : ByteArray} {v9 v u : Value} {ids : List ByteArray} {sg : List (ByteArray × ByteArray)}
theorem LC.on (h : LC w0 bn T v9 ids v kb s u sg w) (hb : Below w.heap.size w w') : LC w0 bn T v9 ids v kb s u sg w' := ⟨h.1.on hb, h.2.here hb⟩
theorem LB.st : St (LB w0 bn T v9 ids v kb s) (fun w w' => Below w.heap.size w w') (LB w0 bn T v9 ids v kb s) := ⟨fun _ h => h, fun _ _ h hb => h.on hb⟩
theorem LC.st : St (LB w0 bn T v9 ids v kb s) (fun w w' => Below w.heap.size w w') (LC w0 bn T v9 ids v kb s u sg) := ⟨fun _ h => h.1, fun _ _ h hb => h.on hb⟩
theorem LD.st {bq : Nat} {x : ByteArray × ByteArray} : St (LB w0 bn T v9 ids v kb s) (fun w w' => Below w.heap.size w w') (LD w0 bn T v9 ids v kb s u sg bq x) := ⟨fun _ h => h.1.1, fun _ _ h hb => ⟨h.1.on hb, (hb.block _ h.2.lt).trans h.2⟩⟩
theorem ids_sigs (h : TxR w0.heap.size w v9 ids) (k : SgRow w0 w u sg) : ∀ i, v9.ownBlock = some i → u.ownBlock ≠ some i := by
  intro i h1 h2
  obtain ⟨_, ⟨rfl, _⟩ | ⟨g, cap, cur, rfl, _, hg, _⟩⟩ := h
  · cases h1
  · obtain rfl : g = i := by simpa [Value.ownBlock] using h1
    obtain ⟨_, ⟨rfl, _⟩ | ⟨g2, cap2, cur2, rfl, _, hg2, _⟩⟩ := k.row
    · cases h2
    · obtain rfl : g2 = g := by simpa [Value.ownBlock] using h2
      rw [hg] at hg2
      cases hg2
theorem LC.push {x : ByteArray × ByteArray} {u' : Value} (h : LC w0 bn T v9 ids v kb s u sg w) (hp : Pk.PushedRow w 39 2 u (sg.length + 1) (sgC sg ++ sgC [x]) u' w') : LC w0 bn T v9 ids v kb s u' (sg ++ [x]) w' := by
  have h1 := h.2.pushL (zs := [x]) rfl hp
  refine ⟨⟨⟨hp.chg.blk h.1.a.note fun e => h.2.row.apart h.1.a.note (by decide) e, h.1.a.ids.chg hp.chg fun k hk e => ids_sigs h.1.a.ids h.2 k hk e, h1.bel, h.1.a.lt⟩, ?_⟩, h1⟩
  refine h.1.key.keep hp.chg fun i t hi hS hT => ?_
  have := sig_chg_ty h.2.row hp i t hS hT
  subst this
  decide
theorem LC.store (h : LC w0 bn T v9 ids v kb s u sg w) : LR w0 bn T v9 ids u sg (w.setCell ⟨bn, 1, none⟩ u) ∧ QKey (w.setCell ⟨bn, 1, none⟩ u) kb s 0 0 := by
  refine ⟨⟨⟨h.1.a.note.setCell 1 u, h.1.a.ids.chg ((Pk.Chg.refl (fun i => i = bn) w).setCell (p := ⟨bn, 1, none⟩) rfl u) fun k hk e => ids_apart h.1.a.ids h.1.a.note (by decide) (by rw [hk, e]), h.1.a.bel.setCell (p := ⟨bn, 1, none⟩) h.1.a.lt _, h.1.a.lt⟩, h.2.setCell h.1.a.note (by decide) h.1.a.lt 1 u⟩, ?_⟩
  refine h.1.key.keep ((Pk.Chg.refl (fun i => i = bn) w).setCell (p := ⟨bn, 1, none⟩) rfl u) fun i t hi hS hT => ?_
  subst hS
  have := hT.inj ⟨_, h.1.a.note⟩
  subst this
  decide
/-- An ID more. -/
theorem LR.id {z : ByteArray} {v9' : Value} (h : LR w0 bn T v9 ids v sg w) (hp : PushedT w0.heap.size w v9 (ids ++ [z]) v9' w') : LR w0 bn T v9' (ids ++ [z]) v sg w' := by
  have hbel := hp.bel h.a.bel h.a.ids
  refine ⟨⟨hp.chg.blk h.a.note fun e => ids_apart h.a.ids h.a.note (by decide) e, hp.row, hbel, h.a.lt⟩, h.row.row.chg hp.chg fun k hk e => ids_sigs h.a.ids h.row k e hk, h.row.own, hbel⟩
end
end Go.Proofs.YtdjppgmaokcgiaaGreatDoor.Nt
