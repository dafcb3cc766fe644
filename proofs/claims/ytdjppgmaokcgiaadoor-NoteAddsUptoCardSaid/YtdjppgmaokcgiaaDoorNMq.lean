/- The document's SameSigs and Same, of notes that hold the same; an api.Note, a []api.Sig that came in. | Walk of law 11's NoteReads. -/
import Derived.Laws.StructEq
import Derived.Test.YtdjppgmaokcgiaaDoorNtV
import Derived.Test.YtdjppgmaokcgiaaDoorNtK
import Derived.Test.YtdjppgmaokcgiaaDoorNtI
import Derived.Test.YtdjppgmaokcgiaaDoorNtW
namespace Go.Proofs.YtdjppgmaokcgiaaDoor.Nt
open Go Go.RowKit

set_option maxRecDepth 100000 in
theorem neq_sig (a b : ByteArray) (w : World) : (binOp .neq 39 (.agg #[.string a, .string b]) (.agg #[.string a, .string b])).run Tryd.prog w = .ok (.bool false) w := by
  have hS : Tryd.prog.underlying 39 = some (.struct (Tryd.prog.fieldsOf 39)) := by kernel_rfl
  have hp : Tryd.prog.stoodInHeld 39 = false := by kernel_rfl
  have u9 := Tryd.underlying9
  rw [run_neq_struct, show (10000 : Nat) = 9999 + 1 from rfl, run_equalIn_agg w 9999 39 _ _ hS hp]
  simp only [Program.fieldsOf, Tryd.underlying39]
  go_simp
set_option maxRecDepth 100000 in
theorem guard_sig (x y : Operand) (xs ys : Array Value) (w : World) : (eqGuard .neq 39 x y (.agg xs) (.agg ys)).run Tryd.prog w = .ok () w :=
  run_eqGuard_agg w .neq 39 x y xs ys (by kernel_rfl)
set_option maxHeartbeats 1600000 in
set_option maxRecDepth 100000 in
theorem samesigs_any (a b : Option Addr) (n c d : Nat) (sg : List (ByteArray × ByteArray)) (w : World) (hv : SigsAt w (.slice a n c) sg) (hu : SigsAt w (.slice b n d) sg) (hn : sg.length = n) (hm : n ≤ maxLen) :
    Calls Tryd.prog 36 #[.slice a n c, .slice b n d] w fun e w' => e = .returned (.bool true) ∧ Below w.heap.size w w' := by
  have hq := neq_sig
  have hgd := guard_sig
  have hvB := Box.mk hv
  have huB := Box.mk hu
  have hnB := Box.mk hn
  have hB0 : Box (Below w.heap.size w w) := ⟨Below.refl _ _⟩
  unfold maxLen at hm
  clear hv hu hn
  go_enter Tryd.func36, Tryd.ntmps36
  go_wp2_with fail
  go_loopw [5] (fun q wr => ∃ i : Nat, i ≤ n ∧ q = .int .i64 (i : Int) ∧ Box (Below w.heap.size w wr)) (fun q _ => n - (intOf q).toNat)
  case atStart => exact ⟨0, by omega, rfl, hB0⟩
  case round =>
    clear hB0
    obtain ⟨i, hi, rfl, hB⟩ := hrel
    by_cases hlt : i < n
    · have hig : i < sg.length := by rw [hnB.out]; exact hlt
      obtain ⟨b1, o1, rfl, k0, k1⟩ := (hvB.out.here hB.out).at i hig
      obtain ⟨b2, o2, rfl, j0, j1⟩ := (huB.out.here hB.out).at i hig
      obtain ⟨x, hx⟩ : ∃ x, sg.getD i default = x := ⟨_, rfl⟩
      rw [hx] at k0 k1 j0 j1
      obtain ⟨x1, x2⟩ := x
      simp only at k0 k1 j0 j1
      have hii : (i : Int) < (n : Int) := by omega
      clear hx hig
      go_wp2_with fail
      go_quiet (fail)
      have hB2 : Box (Below w.heap.size w (wr.drewN nq)) := ⟨hB.out.trans (Drawn.below ⟨nq, rfl⟩)⟩
      clear hB k0 k1 j0 j1
      go_wp2_with fail
      exact ⟨⟨i + 1, by omega, by go_num, hB2⟩, by simp [intOf]; omega⟩
    · obtain rfl : i = n := by omega
      go_wp2_with fail
      go_ret
      exact ⟨rfl, hB.out⟩
set_option maxHeartbeats 1600000 in
set_option maxRecDepth 100000 in
theorem same2_any (t : ByteArray) (a b : Option Addr) (n c d : Nat) (sg : List (ByteArray × ByteArray)) (w : World) (hv : SigsAt w (.slice a n c) sg) (hu : SigsAt w (.slice b n d) sg) (hn : sg.length = n) (hm : n ≤ maxLen) :
    Calls Tryd.prog 15 #[.agg #[.string t, .slice a n c], .agg #[.string t, .slice b n d]] w fun e w' => e = .returned (.bool true) ∧ Below w.heap.size w w' := by
  obtain ⟨W1, hW1⟩ : ∃ W1, w.alloc (.cells #[.string t, .slice a n c] 33) = W1 := ⟨_, rfl⟩
  obtain ⟨W2, hW2⟩ : ∃ W2, W1.alloc (.cells #[.string t, .slice b n d] 33) = W2 := ⟨_, rfl⟩
  have hB1 : Below w.heap.size w W1 := by rw [← hW1]; exact bel_alloc _ _
  have hB2 : Below W1.heap.size W1 W2 := by rw [← hW2]; exact bel_alloc _ _
  have hS1 : Pk.Blk W1 w.heap.size [.string t, .slice a n c] 33 := by rw [← hW1]; exact Pk.Blk.new w _ _
  have hS2 : Pk.Blk W2 W1.heap.size [.string t, .slice b n d] 33 := by rw [← hW2]; exact Pk.Blk.new W1 _ _
  have hS1' : Pk.Blk W2 w.heap.size [.string t, .slice a n c] 33 := (hB2.block _ hS1.lt).trans hS1
  have hB := mono_bel hB1 hB2 (Nat.le_refl _)
  have hF := samesigs_any a b n c d sg W2 (hv.here hB) (hu.here hB) hn hm
  have a0 : W2.cell? ⟨w.heap.size, 0, none⟩ = some (.string t) := hS1'.cell 0
  have a1 : W2.cell? ⟨w.heap.size, 1, none⟩ = some (.slice a n c) := hS1'.cell 1
  have b0 : W2.cell? ⟨W1.heap.size, 0, none⟩ = some (.string t) := hS2.cell 0
  have b1 : W2.cell? ⟨W1.heap.size, 1, none⟩ = some (.slice b n d) := hS2.cell 1
  obtain ⟨p, hp⟩ : ∃ p, W1.heap.size = p := ⟨_, rfl⟩
  rw [hp] at b0 b1
  replace hB := Box.mk hB
  clear hv hu hn hm hB1 hB2 hS1 hS2 hS1'
  go_enter Tryd.func15, Tryd.ntmps15
  go_wp2_with fail
  refine hF.mono ?_
  rintro e w3 ⟨rfl, hb3⟩
  have hB3 := Box.mk (mono_bel hB.out hb3 (Nat.le_refl _))
  clear hb3 hF
  go_wp2_with fail
  go_ret
  exact ⟨rfl, hB3.out⟩
end Go.Proofs.YtdjppgmaokcgiaaDoor.Nt

namespace Go.Proofs.YtdjppgmaokcgiaaDoor.Nt
open Go Go.RowKit

theorem rd_ZS {s : ByteArray} : ZS (rdG s) ∧ (rdG s).length ≤ 16 ∧ (rdT s).size ≤ s.size := by
  unfold rdG rdT
  cases h : rdN s.data.toList with
  | none => exact ⟨fun x hx => (by cases hx), by simp, Nat.zero_le _⟩
  | some n =>
    obtain ⟨t, sg⟩ := n
    obtain ⟨h1, h2⟩ := rdN_some h
    obtain ⟨_, h4, h5⟩ := gN_iff.1 h1
    refine ⟨fun x hx => ⟨by have := (h5 x hx).1; omega, by have := (h5 x hx).2.2; omega⟩, h4, ?_⟩
    have h6 := congrArg List.length h2
    have h7 : (byN (t, sg)).length = t.data.toList.length + (1 + (sgL sg).length) := by show (t.data.toList ++ 10 :: sgL sg).length = _; simp; omega
    rw [h7, data_len, data_len] at h6
    show t.size ≤ s.size
    omega
theorem rd_E (s : ByteArray) : (rdE s = 0 ∧ gN (rdT s, rdG s) = true ∧ (⟨(byN (rdT s, rdG s)).toArray⟩ : ByteArray) = s) ∨ rdE s = 3 := by
  unfold rdE rdT rdG
  cases h : rdN s.data.toList with
  | none => exact .inr rfl
  | some n =>
    obtain ⟨h1, h2⟩ := rdN_some h
    exact .inl ⟨rfl, h1, ba_ext h2⟩
theorem BK.get2 {w0 w : World} {t : TypeId} {l : List (Nat × List Value)} (h : BK w0 t l w) {b : Nat} {x y : Value} (hm : (b, [x, y]) ∈ l) : w.cell? ⟨b, 0, none⟩ = some x ∧ w.cell? ⟨b, 1, none⟩ = some y := ⟨h.get hm 0, h.get hm 1⟩
set_option maxHeartbeats 6400000 in
set_option maxRecDepth 100000 in
theorem law_reads (s : ByteArray) (w : World) (hL : NL w.heap.size w) (hs : s.size ≤ 536870912) :
    Calls Tryd.prog 5 #[.string s] w fun e w' => e = .returned (.bool true) ∧ Below w.heap.size w w' := by
  have hTl := tells_any w.heap.size w hL (Nat.le_refl _)
  have hR1 := Box.mk (fun w' (h : Below w.heap.size w w') => read_any s w.heap.size w' (hL.here (Nat.le_refl _) h) h.size (by omega))
  have hR2 := Box.mk (fun w' (_ : Below w.heap.size w w') => dread_any s w' hs)
  unfold RdI at hR1 hR2
  obtain ⟨hZ, h16, hTs⟩ := rd_ZS (s := s)
  have hE := rd_E s
  have hFm := Box.mk (fun w' a c (h : SigsAt w' (.slice a (rdG s).length c) (rdG s)) (hw : Below w.heap.size w w') => format_any (rdT s) a (rdG s).length c (rdG s) w.heap.size w' (hL.here (Nat.le_refl _) hw) hw.size (by omega) h rfl (by omega) hZ)
  obtain ⟨T, hT⟩ : ∃ T, rdT s = T := ⟨_, rfl⟩
  obtain ⟨sg, hsg⟩ : ∃ T, rdG s = T := ⟨_, rfl⟩
  obtain ⟨E, hEe⟩ : ∃ T, rdE s = T := ⟨_, rfl⟩
  rw [hT, hsg, hEe] at hE
  rw [hT, hsg, hEe] at hR1 hR2
  rw [hT, hsg] at hFm
  rw [hsg] at hZ h16
  obtain ⟨n, hn⟩ : ∃ n, sg.length = n := ⟨_, rfl⟩
  rw [hn] at h16 hFm
  replace hn := Box.mk hn
  clear hL hTs hT hsg hEe hZ
  rcases hE with ⟨rfl, h1, h2⟩ | rfl
  · rw [fmV_yes h1, h2] at hFm
    clear h1 h2
    go_enter Tryd.func5, Tryd.ntmps5
    go_wp2_with fail
    refine hTl.mono ?_
    clear hTl
    rintro e w2 ⟨rfl, hb⟩
    have hA2 := Box.mk ((BK.start w 33).here hb)
    have hF := hR1.out w2 hA2.out.1
    clear hb
    go_wp2_with fail
    refine hF.mono ?_
    clear hF
    rintro e w3 ⟨v3, rfl, hr3⟩
    obtain ⟨a3, c3, rfl⟩ := hr3.row.shape
    have hS3 := Box.mk (hr3.sigs)
    rw [hn.out] at hS3
    rw [hn.out]
    have hA3 := Box.mk ((hA2.out.here hr3.bel).add [.string T, .slice a3 n c3])
    have hS4 := Box.mk (hS3.out.here (bel_alloc w3 (.cells #[.string T, .slice a3 n c3] 33)))
    have hF := hR2.out _ hA3.out.1
    obtain ⟨b3, hb3⟩ : ∃ b, w3.heap.size = b := ⟨_, rfl⟩
    rw [hb3] at hA3
    clear hr3 hS3 hA2
    go_wp2_with fail
    refine hF.mono ?_
    clear hF
    rintro e w5 ⟨v5, rfl, hr5⟩
    obtain ⟨a5, c5, rfl⟩ := hr5.row.shape
    have hS5 := Box.mk (hr5.sigs)
    rw [hn.out] at hS5
    rw [hn.out]
    have hA5 := Box.mk ((hA3.out.here hr5.bel).add [.string T, .slice a5 n c5])
    have hS6 := Box.mk (hS5.out.here (bel_alloc w5 (.cells #[.string T, .slice a5 n c5] 33)))
    have hS7 := Box.mk ((hS4.out.here hr5.bel).here (bel_alloc w5 (.cells #[.string T, .slice a5 n c5] 33)))
    obtain ⟨b5, hb5⟩ : ∃ b, w5.heap.size = b := ⟨_, rfl⟩
    rw [hb5] at hA5
    obtain ⟨c0, c1⟩ := hA5.out.get2 (b := b5) (List.mem_cons.2 (.inl rfl))
    obtain ⟨d0, d1⟩ := hA5.out.get2 (b := b3) (List.mem_cons.2 (.inr (List.mem_singleton.2 rfl)))
    have hF := same2_any T a3 a5 n c3 c5 sg _ hS7.out hS6.out hn.out (by unfold maxLen; omega)
    clear hr5 hS5 hS4 hA3 hb3
    go_wp2_with fail
    refine hF.mono ?_
    clear hF c0 c1 d0 d1
    rintro e w7 ⟨rfl, hb⟩
    have hA7 := Box.mk (hA5.out.here hb)
    obtain ⟨d0, d1⟩ := hA7.out.get2 (b := b3) (List.mem_cons.2 (.inr (List.mem_singleton.2 rfl)))
    have hF := hFm.out w7 a3 c3 (hS7.out.here hb) hA7.out.1
    clear hb hA5 hb5 hS6 hS7
    go_wp2_with fail
    refine hF.mono ?_
    clear hF d0 d1
    rintro e w8 ⟨rfl, hb⟩
    have hB := Box.mk (mono_bel hA7.out.1 hb (Nat.le_refl _))
    clear hb hA7
    go_wp2_with fail
    go_ret
    exact ⟨rfl, hB.out⟩
  · have hFG : ∃ F G, fmV (T, sg) = .tuple #[.string F, .int .i64 G] := ⟨_, _, rfl⟩
    obtain ⟨F, G, hFG⟩ := hFG
    rw [hFG] at hFm
    clear hFG
    go_enter Tryd.func5, Tryd.ntmps5
    go_wp2_with fail
    refine hTl.mono ?_
    clear hTl
    rintro e w2 ⟨rfl, hb⟩
    have hA2 := Box.mk ((BK.start w 33).here hb)
    have hF := hR1.out w2 hA2.out.1
    clear hb
    go_wp2_with fail
    refine hF.mono ?_
    clear hF
    rintro e w3 ⟨v3, rfl, hr3⟩
    obtain ⟨a3, c3, rfl⟩ := hr3.row.shape
    have hS3 := Box.mk (hr3.sigs)
    rw [hn.out] at hS3
    rw [hn.out]
    have hA3 := Box.mk ((hA2.out.here hr3.bel).add [.string T, .slice a3 n c3])
    have hS4 := Box.mk (hS3.out.here (bel_alloc w3 (.cells #[.string T, .slice a3 n c3] 33)))
    have hF := hR2.out _ hA3.out.1
    obtain ⟨b3, hb3⟩ : ∃ b, w3.heap.size = b := ⟨_, rfl⟩
    rw [hb3] at hA3
    clear hr3 hS3 hA2
    go_wp2_with fail
    refine hF.mono ?_
    clear hF
    rintro e w5 ⟨v5, rfl, hr5⟩
    obtain ⟨a5, c5, rfl⟩ := hr5.row.shape
    have hS5 := Box.mk (hr5.sigs)
    rw [hn.out] at hS5
    rw [hn.out]
    have hA5 := Box.mk ((hA3.out.here hr5.bel).add [.string T, .slice a5 n c5])
    have hS6 := Box.mk (hS5.out.here (bel_alloc w5 (.cells #[.string T, .slice a5 n c5] 33)))
    have hS7 := Box.mk ((hS4.out.here hr5.bel).here (bel_alloc w5 (.cells #[.string T, .slice a5 n c5] 33)))
    obtain ⟨b5, hb5⟩ : ∃ b, w5.heap.size = b := ⟨_, rfl⟩
    rw [hb5] at hA5
    obtain ⟨c0, c1⟩ := hA5.out.get2 (b := b5) (List.mem_cons.2 (.inl rfl))
    obtain ⟨d0, d1⟩ := hA5.out.get2 (b := b3) (List.mem_cons.2 (.inr (List.mem_singleton.2 rfl)))
    have hF := same2_any T a3 a5 n c3 c5 sg _ hS7.out hS6.out hn.out (by unfold maxLen; omega)
    clear hr5 hS5 hS4 hA3 hb3
    go_wp2_with fail
    refine hF.mono ?_
    clear hF c0 c1 d0 d1
    rintro e w7 ⟨rfl, hb⟩
    have hA7 := Box.mk (hA5.out.here hb)
    obtain ⟨d0, d1⟩ := hA7.out.get2 (b := b3) (List.mem_cons.2 (.inr (List.mem_singleton.2 rfl)))
    have hF := hFm.out w7 a3 c3 (hS7.out.here hb) hA7.out.1
    clear hb hA5 hb5 hS6 hS7
    go_wp2_with fail
    refine hF.mono ?_
    clear hF d0 d1
    rintro e w8 ⟨rfl, hb⟩
    have hB := Box.mk (mono_bel hA7.out.1 hb (Nat.le_refl _))
    clear hb hA7
    go_wp2_with fail
    go_ret
    exact ⟨rfl, hB.out⟩
end Go.Proofs.YtdjppgmaokcgiaaDoor.Nt
