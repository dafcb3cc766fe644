/- Walks of note.readSig, readSigs. | Walk of note.Read. -/
import Derived.Test.YthkfefkcjcgfkaaGreatDoorWn5
set_option linter.all false
namespace Go.Proofs.YthkfefkcjcgfkaaGreatDoor.Nt
open Go Go.RowKit

theorem cutL_len (l p : List UInt8) : (Lib.cut l p).1.length ≤ l.length ∧ (Lib.cut l p).2.1.length ≤ l.length := by
  unfold Lib.cut
  split
  · exact ⟨by rw [List.length_take]; exact Nat.min_le_right _ _, by rw [List.length_drop]; omega⟩
  · exact ⟨Nat.le_refl _, Nat.zero_le _⟩
theorem trimL_len (l p : List UInt8) : (Lib.trimPrefix l p).length ≤ l.length := by
  unfold Lib.trimPrefix
  split
  · rw [List.length_drop]; omega
  · exact Nat.le_refl _
theorem rdS_size (l : List UInt8) : (rdS l).1.size ≤ l.length ∧ (rdS l).2.size ≤ l.length := by
  have h1 := trimL_len l lSig
  have h2 := cutL_len (Lib.trimPrefix l lSig) [32]
  have h3 := unT_size (bT (Lib.cut (Lib.trimPrefix l lSig) [32]).1)
  have h4 := unT_size (bT (Lib.cut (Lib.trimPrefix l lSig) [32]).2.1)
  rw [bT_size] at h3 h4
  unfold rdS
  exact ⟨by show (unT _).size ≤ _; exact Nat.le_trans h3 (by omega), by show (unT _).size ≤ _; exact Nat.le_trans h4 (by omega)⟩
set_option maxHeartbeats 1600000 in
set_option maxRecDepth 100000 in
theorem readsig_any (s : ByteArray) (B : Nat) (w : World) (hL : NL B w) (hB : B ≤ w.heap.size) (hs : s.size ≤ 1073741824) :
    Calls Tryz.prog 53 #[.string s] w fun e w' => e = .returned (.agg #[.string (rdS s.data.toList).1, .string (rdS s.data.toList).2]) ∧ Below w.heap.size w w' := by
  obtain ⟨l, hl⟩ : ∃ l, s.data.toList = l := ⟨_, rfl⟩
  have hlen : l.length = s.size := by rw [← hl, data_len]
  have hT := Tryz.strings_TrimPrefix s ⟨#[115, 105, 103, 32]⟩
  rw [hl, show (⟨#[115, 105, 103, 32]⟩ : ByteArray).data.toList = lSig from rfl] at hT
  have hR : rdS l = (unT (Lib.cut (Lib.trimPrefix l lSig) [32]).1, unT (Lib.cut (Lib.trimPrefix l lSig) [32]).2.1) := rfl
  have n0 := trimL_len l lSig
  obtain ⟨tp, htp⟩ : ∃ tp, Lib.trimPrefix l lSig = tp := ⟨_, rfl⟩
  rw [htp] at hT hR n0
  have n1 := cutL_len tp [32]
  have hC := fun k w' hk => Tryz.strings_Cut (bT tp) ⟨#[32]⟩ k w' (by rw [bT_size]; omega) hk
  rw [show (bT tp).data.toList = tp from rfl, show (⟨#[32]⟩ : ByteArray).data.toList = [32] from rfl] at hC
  obtain ⟨x, y, b, hc⟩ : ∃ x y b, Lib.cut tp [32] = (x, y, b) := ⟨_, _, _, rfl⟩
  rw [hc] at hC hR n1
  simp only at hC hR n1
  rw [hl, hR]
  have hU1 := Box.mk (fun w' => nunhex_any (bT x) w' (by rw [bT_size]; omega))
  have hU2 := Box.mk (fun w' => nunhex_any (bT y) w' (by rw [bT_size]; omega))
  rw [show (bT x).data.toList = x from rfl] at hU1
  rw [show (bT y).data.toList = y from rfl] at hU2
  obtain ⟨X, hX⟩ : ∃ X, unT x = X := ⟨_, rfl⟩
  obtain ⟨Y, hY⟩ : ∃ Y, unT y = Y := ⟨_, rfl⟩
  rw [hX] at hU1 ⊢
  rw [hY] at hU2 ⊢
  unfold bT at hU1 hU2 hC
  have hS := Box.mk (Pk.Blk.new w [.string ⟨#[]⟩, .string ⟨#[]⟩] 71)
  obtain ⟨wa, hwa⟩ : ∃ wa, w.alloc (.cells #[.string ⟨#[]⟩, .string ⟨#[]⟩] 71) = wa := ⟨_, rfl⟩
  have hSa : Box (Pk.Blk wa w.heap.size [.string ⟨#[]⟩, .string ⟨#[]⟩] 71) := ⟨by rw [← hwa]; exact Pk.Blk.new w _ _⟩
  have hBa : Box (Below w.heap.size w wa) := ⟨by rw [← hwa]; exact bel_alloc _ _⟩
  obtain ⟨k, hk⟩ := (hL.here hB hBa.out).m
  have hC1 := hC k wa hk
  clear hl hlen hR n0 htp n1 hc hX hY hS hL hB hk hC hs
  go_enter Tryz.func53, Tryz.ntmps53
  go_wp2_with fail
  refine (hT _).mono ?_
  clear hT hwa
  rintro e w1 ⟨rfl, hw1⟩
  obtain rfl : wa = w1 := hw1.symm
  go_wp2_with fail
  refine hC1.mono ?_
  clear hC1
  rintro e w2 ⟨rfl, nq, hw2⟩
  have hb2 : Below wa.heap.size wa w2 := by rw [hw2]; exact Drawn.below ⟨nq, rfl⟩
  have hB2 := Box.mk (mono_bel hBa.out hb2 (Nat.le_refl _))
  have hS2 := Box.mk ((hb2.block _ (Pk.Blk.lt hSa.out)).trans hSa.out)
  clear hw2 hb2 hBa hSa
  go_wp2_with fail
  refine (hU1.out _).mono ?_
  clear hU1
  rintro e w3 ⟨rfl, hb3⟩
  have hB3 := Box.mk (mono_bel hB2.out hb3 (Nat.le_refl _))
  have hS3 := Box.mk ((hb3.block _ (Pk.Blk.lt hS2.out)).trans hS2.out)
  clear hb3 hB2 hS2
  go_wp2_with fail
  refine (hU2.out _).mono ?_
  clear hU2
  rintro e w4 ⟨rfl, hb4⟩
  have hB4 := Box.mk (mono_bel hB3.out hb4 (Nat.le_refl _))
  have hS4 : Pk.Blk w4 w.heap.size [.string ⟨#[]⟩, .string ⟨#[]⟩] 71 := (hb4.block _ (Pk.Blk.lt hS3.out)).trans hS3.out
  have c0 := hS4.cell 0
  have c1 := hS4.cell 1
  have f0 := hS4.free 0
  have f1 := hS4.free 1
  simp only [List.getElem?_cons_zero, List.getElem?_cons_succ] at c0 c1
  have hf : Box (Pk.Blk ((w4.setCell ⟨w.heap.size, 0, none⟩ (.string X)).setCell ⟨w.heap.size, 1, none⟩ (.string Y)) w.heap.size [.string X, .string Y] 71 ∧ Below w.heap.size w ((w4.setCell ⟨w.heap.size, 0, none⟩ (.string X)).setCell ⟨w.heap.size, 1, none⟩ (.string Y))) :=
    ⟨(hS4.setCell 0 (.string X)).setCell 1 (.string Y), (hB4.out.setCell (p := ⟨w.heap.size, 0, none⟩) (Nat.le_refl _) _).setCell (p := ⟨w.heap.size, 1, none⟩) (Nat.le_refl _) _⟩
  clear hb4 hB3 hS3 hS4
  go_wp2_with fail
  have k0 : ((w4.setCell ⟨w.heap.size, 0, none⟩ (.string X)).setCell ⟨w.heap.size, 1, none⟩ (.string Y)).cell? ⟨w.heap.size, 0, none⟩ = some (.string X) := hf.out.1.cell 0
  have k1 : ((w4.setCell ⟨w.heap.size, 0, none⟩ (.string X)).setCell ⟨w.heap.size, 1, none⟩ (.string Y)).cell? ⟨w.heap.size, 1, none⟩ = some (.string Y) := hf.out.1.cell 1
  clear c0 c1 f0 f1
  refine bodyPost_ret (v := .agg #[.string X, .string Y]) (by simp [results, Tryz.results53, go_sem, k0, k1]; try rfl) rfl ⟨rfl, hf.out.2⟩
/-- A new block with one signature. -/
theorem sig_new (w : World) (x : ByteArray × ByteArray) : SigsAt (w.alloc (.cells #[.string x.1, .string x.2] 71)) (.slice (some ⟨w.heap.size, 0, none⟩) 1 1) [x] := by
  have h : Pk.Blk (w.alloc (.cells #[.string x.1, .string x.2] 71)) w.heap.size [.string x.1, .string x.2] 71 := Pk.Blk.new w _ _
  refine ⟨_, _, rfl, fun _ => ⟨w.heap.size, 0, rfl, by simp, fun i hi => ?_⟩⟩
  obtain rfl : i = 0 := by simpa using hi
  exact ⟨h.cell 0, h.cell 1⟩
def lenV : Value → Nat | .slice _ n _ => n | _ => 0
def RdsI (w0 : World) (sg : List (ByteArray × ByteArray)) (e : Ending) (w' : World) : Prop := ∃ v, e = .returned v ∧ SgRow w0 w' v sg
theorem rdsL_step (n : Nat) (rest : List UInt8) (h : rest ≠ []) : rdsL (n + 1) rest = rdS (Lib.cut rest nl).1 :: rdsL n (Lib.cut rest nl).2.1 := by rw [rdsL, if_neg h]
theorem rdsL_nil (n : Nat) : rdsL n [] = [] := by cases n <;> rfl
set_option maxHeartbeats 3200000 in
set_option maxRecDepth 100000 in
theorem readsigs_any (s : ByteArray) (B : Nat) (w : World) (hL : NL B w) (hB : B ≤ w.heap.size) (hs : s.size ≤ 1073741824) :
    Calls Tryz.prog 18 #[.string s] w (RdsI w (rdsL 17 s.data.toList)) := by
  obtain ⟨R, hR⟩ : ∃ R, rdsL 17 s.data.toList = R := ⟨_, rfl⟩
  have hA0 : Box (SgRow w w (.slice none 0 0) [] ∧ [] ++ rdsL (17 - 0) s.data.toList = R) := ⟨⟨Pk.Row.nil _ _ _, (fun k hk => by cases hk), Below.refl _ _⟩, by rw [← hR]; rfl⟩
  have hLB := Box.mk (And.intro hL hB)
  obtain ⟨i0, hi, hz0, hz1, hz2⟩ := info_parts info_sig
  have hH := Box.mk (And.intro hi (And.intro hz0 (And.intro hz1 hz2)))
  rw [hR]
  clear hL hB hR hi hz0 hz1 hz2
  go_enter Tryz.func18, Tryz.ntmps18
  go_wp2_with fail
  go_loopw [0, 3] (fun r v wr => ∃ (z : ByteArray) (sg : List (ByteArray × ByteArray)), sg.length ≤ 17 ∧ z.size ≤ 1073741824 ∧ r = .string z ∧ Box (SgRow w wr v sg ∧ sg ++ rdsL (17 - sg.length) z.data.toList = R)) (fun _ v _ => 17 - lenV v)
  case atStart => exact ⟨s, [], by simp, hs, rfl, hA0⟩
  case round =>
    clear hA0
    obtain ⟨z, sg, hn, hz, rfl, hA⟩ := hrel
    obtain ⟨a7, c7, e7⟩ := hA.out.1.row.shape
    obtain ⟨n7, hn7⟩ : ∃ n, sg.length = n := ⟨_, rfl⟩
    rw [hn7] at e7 hn hA
    subst e7
    by_cases he : z = ⟨#[]⟩
    · have hq : (!z.toList.isEmpty) = false := by rw [ne_b]; unfold neB; rw [he]; rfl
      have hq2 : z.toList = [] := by rw [he, ByteArray.toList_eq]
      have hRe : SgRow w wr (.slice a7 n7 c7) R := by
        have h2 := hA.out.2
        rw [he, show (⟨#[]⟩ : ByteArray).data.toList = [] from rfl, rdsL_nil, List.append_nil] at h2
        rw [← h2]; exact hA.out.1
      replace hRe := Box.mk hRe
      clear he hA
      go_wp2_with fail
      go_ret
      exact ⟨_, rfl, hRe.out⟩
    · have hq : (!z.toList.isEmpty) = true := by rw [ne_b]; unfold neB; rw [decide_eq_false he]; rfl
      have hq2 : ¬ z.toList = [] := by
        intro h; rw [h] at hq; cases hq
      have hzl : z.data.toList ≠ [] := fun h => he (ba_ext h)
      by_cases h17 : n7 ≤ 16
      · have hst := rdsL_step (16 - n7) z.data.toList hzl
        rw [show 16 - n7 + 1 = 17 - n7 by omega] at hst
        have h2 := hA.out.2
        rw [hst] at h2
        have n1 := cutL_len z.data.toList nl
        rw [data_len] at n1
        obtain ⟨hLw, hBw⟩ := hLB.out
        have hLr := hLw.here hBw hA.out.1.bel
        obtain ⟨k, hk⟩ := hLr.m
        have hC := Tryz.strings_Cut z ⟨#[10]⟩ k wr (by omega) hk
        rw [show (⟨#[10]⟩ : ByteArray).data.toList = nl from rfl] at hC
        obtain ⟨x, y, b, hc⟩ : ∃ x y b, Lib.cut z.data.toList nl = (x, y, b) := ⟨_, _, _, rfl⟩
        rw [hc] at hC h2 n1
        simp only at hC h2 n1
        have hS := Box.mk (fun w' (h : Below wr.heap.size wr w') => readsig_any (bT x) B w' (hLr.here (Nat.le_trans hBw hA.out.1.bel.size) h) (Nat.le_trans (Nat.le_trans hBw hA.out.1.bel.size) h.size) (by rw [bT_size]; omega))
        rw [show (bT x).data.toList = x from rfl] at hS
        obtain ⟨X, hX⟩ : ∃ X, rdS x = X := ⟨_, rfl⟩
        rw [hX] at hS h2
        obtain ⟨x1, x2⟩ := X
        have hyz : (bT y).size ≤ 1073741824 := by rw [bT_size]; omega
        have h2' : Box ((sg ++ [(x1, x2)]) ++ rdsL (17 - (n7 + 1)) (bT y).data.toList = R) := ⟨by rw [List.append_assoc, show 17 - (n7 + 1) = 16 - n7 by omega]; exact h2⟩
        unfold bT at hS h2' hyz
        simp only at hS
        clear hst h2 n1 hLr hLw hBw hk hc hX hzl he
        go_wp2_with fail
        refine hC.mono ?_
        clear hC
        rintro e w2 ⟨rfl, nq, hw2⟩
        have hb2 : Below wr.heap.size wr w2 := by rw [hw2]; exact Drawn.below ⟨nq, rfl⟩
        have hR2 := Box.mk (hA.out.1.here hb2)
        have hS2 := hS.out w2 hb2
        clear hw2 hb2 hS
        go_wp2_with fail
        refine hS2.mono ?_
        clear hS2
        rintro e w3 ⟨rfl, hb3⟩
        have hR3 := Box.mk (hR2.out.here hb3)
        have hR4 := Box.mk (hR3.out.here (bel_alloc w3 (.cells #[.string x1, .string x2] 71)))
        have hz4 := Box.mk (sig_new w3 (x1, x2))
        have hnB := Box.mk hn7
        clear hb3 hR2 hn7 hA
        go_wp2_with (at_builtin; refine wpList_pushG rfl (.tmp 18) (.tmp 21) rfl _ sg.length (sgC sg) rfl hR4.out.row (some ⟨w3.heap.size, 0, none⟩) 1 1 [(x1, x2)] rfl rfl hz4.out (by rw [hnB.out]; omega) ?_)
        intro v' w5 hp
        have hA5 : Box (SgRow w w5 v' (sg ++ [(x1, x2)]) ∧ (sg ++ [(x1, x2)]) ++ rdsL (17 - (sg ++ [(x1, x2)]).length) (bT y).data.toList = R) := ⟨hR4.out.pushL rfl hp, by
          rw [List.length_append, hnB.out]; exact h2'.out⟩
        obtain ⟨a8, c8, e8⟩ := hA5.out.1.row.shape
        have hl8 : (sg ++ [(x1, x2)]).length = n7 + 1 := by rw [List.length_append, hnB.out]; rfl
        rw [hl8] at e8
        subst e8
        clear hp hR4 hR3 hz4 h2'
        unfold bT at hA5
        go_wp2_with fail
        exact ⟨⟨_, _, by rw [hl8]; omega, hyz, rfl, hA5⟩, by simp only [lenV]; omega⟩
      · have hRe : SgRow w wr (.slice a7 n7 c7) R := by
          have h2 := hA.out.2
          rw [show 17 - n7 = 0 by omega, rdsL, List.append_nil] at h2
          rw [← h2]; exact hA.out.1
        replace hRe := Box.mk hRe
        clear he hA hzl
        go_wp2_with fail
        go_ret
        exact ⟨_, rfl, hRe.out⟩
end Go.Proofs.YthkfefkcjcgfkaaGreatDoor.Nt

namespace Go.Proofs.YthkfefkcjcgfkaaGreatDoor.Nt
open Go Go.RowKit

theorem st_eq {B C : World → Prop} (h : ∀ w, C w → B w) : St B (fun w w' => w = w') C := ⟨h, fun _ _ hC e => e ▸ hC⟩
def rdT (s : ByteArray) : ByteArray := match rdN s.data.toList with | some n => n.1 | none => ⟨#[]⟩
def rdG (s : ByteArray) : List (ByteArray × ByteArray) := match rdN s.data.toList with | some n => n.2 | none => []
def rdE (s : ByteArray) : Int := match rdN s.data.toList with | some _ => 0 | none => 3
/-- What Read answers: a note, the row of its signatures of the call's own. -/
def RdI (w0 : World) (s : ByteArray) (e : Ending) (w' : World) : Prop := ∃ v, e = .returned (.tuple #[.agg #[.string (rdT s), v], .int .i64 (rdE s)]) ∧ SgRow w0 w' v (rdG s)
theorem rd_none {s : ByteArray} (h : rdN s.data.toList = none) : rdT s = ⟨#[]⟩ ∧ rdG s = [] ∧ rdE s = 3 := by unfold rdT rdG rdE; rw [h]; exact ⟨rfl, rfl, rfl⟩
theorem rd_some {s : ByteArray} {n : ByteArray × List (ByteArray × ByteArray)} (h : rdN s.data.toList = some n) : rdT s = n.1 ∧ rdG s = n.2 ∧ rdE s = 0 := by unfold rdT rdG rdE; rw [h]; exact ⟨rfl, rfl, rfl⟩
/-- In Read: what it answers (a cell), the note that it reads, the row. -/
structure N2 (w0 : World) (bt : Nat) (t : ByteArray) (u v : Value) (sg : List (ByteArray × ByteArray)) (w : World) : Prop where
  b2 : Pk.Blk w w0.heap.size [.string ⟨#[]⟩, .slice none 0 0] 29
  b6 : Pk.Blk w bt [.string t, u] 29
  row : SgRow w0 w v sg
  lt : w0.heap.size < bt
theorem N2.on {w0 w w' : World} {bt : Nat} {t : ByteArray} {u v : Value} {sg : List (ByteArray × ByteArray)} (h : N2 w0 bt t u v sg w) (hb : Below w.heap.size w w') : N2 w0 bt t u v sg w' :=
  ⟨(hb.block _ h.b2.lt).trans h.b2, (hb.block _ h.b6.lt).trans h.b6, h.row.here hb, h.lt⟩
theorem N2.cells {w0 w : World} {bt : Nat} {t : ByteArray} {u v : Value} {sg : List (ByteArray × ByteArray)} (h : N2 w0 bt t u v sg w) : w.cell? ⟨bt, 0, none⟩ = some (.string t) ∧ w.cell? ⟨bt, 1, none⟩ = some u ∧
    w.cell? ⟨w0.heap.size, 0, none⟩ = some (.string ⟨#[]⟩) ∧ w.cell? ⟨w0.heap.size, 1, none⟩ = some (.slice none 0 0) ∧ w.frozen? ⟨w0.heap.size, 0, none⟩ = false ∧ w.frozen? ⟨w0.heap.size, 1, none⟩ = false :=
  ⟨h.b6.cell 0, h.b6.cell 1, h.b2.cell 0, h.b2.cell 1, h.b2.free 0, h.b2.free 1⟩
theorem Row_setCell {w : World} {e : TypeId} {size n b : Nat} {v : Value} {xs cs : List Value} {t : TypeId} (h : Pk.Row w e size v n xs) (hb : Pk.Blk w b cs t) (ht : t ≠ e) (j : Nat) (u : Value) : Pk.Row (w.setCell ⟨b, j, none⟩ u) e size v n xs := by
  have hap := h.apart hb ht
  exact h.chg ((Pk.Chg.refl (fun i => i = b) w).setCell (p := ⟨b, j, none⟩) rfl u) fun k hk e => hap (by rw [hk, e])
theorem SgRow.setCell {w0 w : World} {v : Value} {sg : List (ByteArray × ByteArray)} {b : Nat} {cs : List Value} {t : TypeId} (h : SgRow w0 w v sg) (hb : Pk.Blk w b cs t) (ht : t ≠ 71) (hB : w0.heap.size ≤ b) (j : Nat) (u : Value) : SgRow w0 (w.setCell ⟨b, j, none⟩ u) v sg :=
  ⟨Row_setCell h.row hb ht j u, h.own, h.bel.setCell (p := ⟨b, j, none⟩) hB u⟩
theorem N2.sto {w0 w : World} {bt : Nat} {t : ByteArray} {u v : Value} {sg : List (ByteArray × ByteArray)} (h : N2 w0 bt t u v sg w) (t' : ByteArray) (u' : Value) : N2 w0 bt t' u' v sg ((w.setCell ⟨bt, 0, none⟩ (.string t')).setCell ⟨bt, 1, none⟩ u') := by
  have hl := h.lt
  refine ⟨?_, (h.b6.setCell 0 (.string t')).setCell 1 u', (h.row.setCell h.b6 (by decide) (Nat.le_of_lt hl) 0 _).setCell (h.b6.setCell 0 _) (by decide) (Nat.le_of_lt hl) 1 _, hl⟩
  exact (Below.heap_setCell _ _ _ _ (by simp; omega)).trans ((Below.heap_setCell _ _ _ _ (by simp; omega)).trans h.b2)
theorem SgRow.base {w0 w1 w : World} {v : Value} {sg : List (ByteArray × ByteArray)} (h : SgRow w1 w v sg) (hb : Below w0.heap.size w0 w1) : SgRow w0 w v sg := ⟨h.row, fun k hk => Nat.le_trans hb.size (h.own k hk), mono_bel hb h.bel (Nat.le_refl _)⟩
/-- A region told from a class that need not be its base. -/
theorem region_steadyC {P : Program} (B C : World → Prop) (R : World → World → Prop) {id : Nat} {Q : Exit → Act → World → Prop} {a : Act} {w : World} {l : List Oper} (hm : P.follows .mixedOrders = true) (hC : C w.drew)
    (h : anyS P .any l.toArray B R (Q .normal) l.length (Array.replicate l.length false) a C) : (Code.region id l.toArray true).wp P Q a w := by
  refine wp_region_any hm ?_
  have h2 := any_of_S (fun _ _ h => h) _ _ _ _ _ hC h
  simpa using h2
def fin2 (w0 w : World) (a b : Value) : World := (w.setCell ⟨w0.heap.size, 0, none⟩ a).setCell ⟨w0.heap.size, 1, none⟩ b
theorem fin2_out {w0 w : World} {v : Value} {sg : List (ByteArray × ByteArray)} (hb : Pk.Blk w w0.heap.size [.string ⟨#[]⟩, .slice none 0 0] 29) (hR : SgRow w0 w v sg) (a b : Value) :
    (fin2 w0 w a b).cell? ⟨w0.heap.size, 0, none⟩ = some a ∧ (fin2 w0 w a b).cell? ⟨w0.heap.size, 1, none⟩ = some b ∧ SgRow w0 (fin2 w0 w a b) v sg := by
  have k : Pk.Blk (fin2 w0 w a b) w0.heap.size [a, b] 29 := (hb.setCell 0 a).setCell 1 b
  exact ⟨k.cell 0, k.cell 1, (hR.setCell hb (by decide) (Nat.le_refl _) 0 a).setCell (hb.setCell 0 a) (by decide) (Nat.le_refl _) 1 b⟩
theorem rdN_cand {s : ByteArray} {t : ByteArray} {sg : List (ByteArray × ByteArray)} (h : chkC gN byN s.data.toList (some (t, sg)) = rdN s.data.toList) : (gN (t, sg) = true → (⟨(byN (t, sg)).toArray⟩ : ByteArray) = s → rdN s.data.toList = some (t, sg)) ∧ ((gN (t, sg) = false ∨ (⟨(byN (t, sg)).toArray⟩ : ByteArray) ≠ s) → rdN s.data.toList = none) := by
  rw [← h]
  unfold chkC
  refine ⟨fun h1 h2 => ?_, fun h1 => ?_⟩
  · simp only [h1, ← h2, true_and]
    rw [if_pos trivial]
  · simp only
    rw [if_neg]
    rintro ⟨h2, h3⟩
    rcases h1 with h1 | h1
    · rw [h2] at h1; cases h1
    · exact h1 (ba_ext h3)
theorem rdsL_ZS : ∀ (n : Nat) (l : List UInt8), l.length ≤ 1073741824 → ZS (rdsL n l)
  | 0, _, _ => fun x hx => by cases hx
  | n + 1, l, h => by
    rw [rdsL]
    split
    · exact fun x hx => by cases hx
    · have h1 := cutL_len l nl
      intro x hx
      rcases List.mem_cons.1 hx with h2 | h2
      · have := rdS_size (Lib.cut l nl).1
        rw [h2]
        exact ⟨by omega, by omega⟩
      · exact rdsL_ZS n _ (by omega) x h2
theorem rdsL_len : ∀ (n : Nat) (l : List UInt8), (rdsL n l).length ≤ n
  | 0, _ => Nat.le_refl _
  | n + 1, l => by
    rw [rdsL]
    split
    · exact Nat.zero_le _
    · have := rdsL_len n (Lib.cut l nl).2.1; simp; omega
set_option maxHeartbeats 6400000 in
set_option maxRecDepth 100000 in
theorem read_any (s : ByteArray) (B : Nat) (w : World) (hL : NL B w) (hB : B ≤ w.heap.size) (hs : s.size ≤ 1073741824) :
    Calls Tryz.prog 5 #[.string s] w (RdI w s) := by
  obtain ⟨wa, hwa⟩ : ∃ wa, w.alloc (.cells #[.string ⟨#[]⟩, .slice none 0 0] 29) = wa := ⟨_, rfl⟩
  have hBa : Below w.heap.size w wa := by rw [← hwa]; exact bel_alloc _ _
  have hSa : Pk.Blk wa w.heap.size [.string ⟨#[]⟩, .slice none 0 0] 29 := by rw [← hwa]; exact Pk.Blk.new w _ _
  obtain ⟨k, hk⟩ := (hL.here hB hBa).m
  have hI := Tryz.strings_Index s ⟨#[10, 10]⟩ k wa (by omega) hk
  rw [show (⟨#[10, 10]⟩ : ByteArray).data.toList = nl2 from rfl] at hI
  have hpc : rdN s.data.toList = chkC gN byN s.data.toList (candP s.data.toList) := rfl
  unfold candP at hpc
  have hge := Lib.index_ge s.data.toList nl2
  have hrm := Lib.index_room s.data.toList nl2
  rw [show nl2.length = 2 from rfl, data_len] at hrm
  have hN0 : Box (SgRow w wa (.slice none 0 0) []) := ⟨⟨Pk.Row.nil _ _ _, (fun k hk => by cases hk), hBa⟩⟩
  have hLw := Box.mk hL
  have hBw := Box.mk hB
  replace hBa := Box.mk hBa
  replace hSa := Box.mk hSa
  obtain ⟨I, hIe⟩ : ∃ I, Lib.index s.data.toList nl2 = I := ⟨_, rfl⟩
  rw [hIe] at hI hpc hge hrm
  clear hk hL hB hIe
  obtain ⟨c0, c1, f0, f1⟩ : wa.cell? ⟨w.heap.size, 0, none⟩ = some (.string ⟨#[]⟩) ∧ wa.cell? ⟨w.heap.size, 1, none⟩ = some (.slice none 0 0) ∧ wa.frozen? ⟨w.heap.size, 0, none⟩ = false ∧ wa.frozen? ⟨w.heap.size, 1, none⟩ = false := ⟨hSa.out.cell 0, hSa.out.cell 1, hSa.out.free 0, hSa.out.free 1⟩
  by_cases h0 : I < 0
  · rw [if_pos h0] at hpc
    have hv := rd_none (s := s) hpc
    have hfin := Box.mk (fin2_out hSa.out hN0.out (.string ⟨#[]⟩) (.slice none 0 0))
    replace hv := Box.mk hv
    clear hpc hge hrm hLw hBw
    go_enter Tryz.func5, Tryz.ntmps5
    go_wp2_with fail
    refine hI.mono ?_
    clear hI hwa
    rintro e w1 ⟨rfl, hw1⟩
    obtain rfl : wa = w1 := hw1.symm
    go_wp2_with fail
    have hf := hfin.out
    unfold fin2 at hf
    obtain ⟨k0, k1, hbf⟩ := hf
    clear c0 c1 f0 f1
    refine bodyPost_ret (v := .tuple #[.agg #[.string ⟨#[]⟩, .slice none 0 0], .int .i64 3]) (by simp [results, Tryz.results5, go_sem, k0, k1]; try rfl) rfl ⟨_, by rw [hv.out.1, hv.out.2.2], by rw [hv.out.2.1]; exact hbf⟩
  · rw [if_neg h0] at hpc
    obtain ⟨i, rfl⟩ : ∃ i : Nat, I = (i : Int) := ⟨I.toNat, by omega⟩
    have hi2 : i + 2 ≤ s.size := by have := hrm (by omega); omega
    rw [Int.toNat_natCast] at hpc
    have hcd := rdN_cand hpc.symm
    have hZ := rdsL_ZS 17 (s.data.toList.drop (i + 2)) (by rw [List.length_drop, data_len]; omega)
    have hLn := rdsL_len 17 (s.data.toList.drop (i + 2))
    have e1 : (⟨(s.data.toList.take (i + 1)).toArray⟩ : ByteArray) = s.extract 0 (i + 1) := ba_ext (by rw [Lib.extract_from_zero])
    have e2 : (s.extract (i + 2) s.size).data.toList = s.data.toList.drop (i + 2) := Lib.extract_to_end _ _
    rw [e1] at hcd
    rw [← e2] at hcd hZ hLn
    obtain ⟨Y, hY⟩ : ∃ Y, s.extract (i + 2) s.size = Y := ⟨_, rfl⟩
    obtain ⟨X, hX⟩ : ∃ X, s.extract 0 (i + 1) = X := ⟨_, rfl⟩
    have hYz : Y.size ≤ 1073741824 := by rw [← hY, ByteArray.size_extract]; omega
    have hXz : X.size ≤ 1073741824 := by rw [← hX, ByteArray.size_extract]; omega
    rw [hX, hY] at hcd
    rw [hY] at hZ hLn
    have hRs := Box.mk (fun w' (h : Below w.heap.size w w') => readsigs_any Y B w' (hLw.out.here hBw.out h) (Nat.le_trans hBw.out h.size) hYz)
    obtain ⟨sg, hsg⟩ : ∃ sg, rdsL 17 Y.data.toList = sg := ⟨_, rfl⟩
    rw [hsg] at hcd hZ hLn hRs
    have hFm := Box.mk (fun w' v (h : SgRow w w' v sg) => show ∃ a c, v = .slice a sg.length c ∧ Calls Tryz.prog 6 #[.agg #[.string X, .slice a sg.length c]] w' fun e w'' => e = .returned (fmV (X, sg)) ∧ Below w'.heap.size w' w'' by
      obtain ⟨a, c, rfl⟩ := h.row.shape
      exact ⟨a, c, rfl, format_any X a sg.length c sg B w' (hLw.out.here hBw.out h.bel) (Nat.le_trans hBw.out h.bel.size) hXz h.sigs rfl (by omega) hZ⟩)
    replace hcd := Box.mk hcd
    clear hpc hge hrm hLw hBw e1 e2 hYz hXz hsg hZ hLn hN0 c0 c1 f0 f1
    go_enter Tryz.func5, Tryz.ntmps5
    go_wp2_with fail
    refine hI.mono ?_
    clear hI hwa
    rintro e w1 ⟨rfl, hw1⟩
    obtain rfl : wa = w1 := hw1.symm
    go_wp2_with fail
    refine region_steadyC (fun _ => True) (PC wa) (fun w w' => w = w') rfl (dB wa) ?_
    refine anyS_calms [0, 1, 2, 3, 4, 5, 6, 7] 4 rfl (fun _ => rfl) (st_eq fun _ _ => trivial) (by kernel_rfl) (by kernel_rfl) (by kernel_rfl) ?_
    simp [nth]
    try simp only [Act.put, List.setIfInBounds_toArray, List.set_cons_succ, List.set_cons_zero]
    repeat (go_big_quiet_step (first | exact fun _ => rfl | rfl))
    rw [hY]
    refine wpQuiet_nil ?_
    refine anyS_fork 8 10 (by kernel_rfl) rfl rfl rfl rfl (fun wb hWb K hK => ?_) (fun wb hWb K hK => ?_)
    · have hF := hRs.out wb (mono_bel hBa.out hWb (Nat.le_refl _))
      go_simp
      refine hF.mono ?_
      rintro e wc ⟨v, rfl, hR0⟩
      have hR : SgRow w wc v sg := hR0.base (mono_bel hBa.out hWb (Nat.le_refl _))
      have hb2 : Box (Pk.Blk wc w.heap.size [.string ⟨#[]⟩, .slice none 0 0] 29) := ⟨(hR0.bel.block _ (Nat.lt_of_lt_of_le hSa.out.lt hWb.size)).trans ((hWb.block _ hSa.out.lt).trans hSa.out)⟩
      obtain ⟨a7, c7, rfl⟩ := hR.row.shape
      obtain ⟨n7, hn7⟩ : ∃ n, sg.length = n := ⟨_, rfl⟩
      have hRb := Box.mk hR
      rw [hn7] at hRb
      rw [hn7]
      replace hn7 := Box.mk hn7
      refine hK _ _ (fun w' => w' = wc) (st_eq fun _ _ => trivial) rfl ?_
      clear hK K hF hWb hR0 hR hRs
      refine anyS_calms [9] 2 rfl (fun _ => rfl) (st_eq fun _ _ => trivial) (by kernel_rfl) (by kernel_rfl) (by kernel_rfl) ?_
      simp [nth]
      try simp only [Act.put, List.setIfInBounds_toArray, List.set_cons_succ, List.set_cons_zero]
      repeat (go_big_quiet_step (first | exact fun _ => rfl | rfl))
      refine wpQuiet_nil ?_
      refine anyS_forced 10 (by kernel_rfl) rfl rfl (fun wx hWx K hK => ?_)
      subst hWx
      have hN : N2 w wx.heap.size ⟨#[]⟩ (.slice none 0 0) (.slice a7 n7 c7) sg (wx.alloc (.cells #[.string ⟨#[]⟩, .slice none 0 0] 29)) := ⟨((bel_alloc wx _).block _ (Pk.Blk.lt hb2.out)).trans hb2.out, Pk.Blk.new wx [.string ⟨#[]⟩, .slice none 0 0] _, hRb.out.here (bel_alloc wx _), Pk.Blk.lt hb2.out⟩
      go_simp
      refine hK _ _ (N2 w wx.heap.size ⟨#[]⟩ (.slice none 0 0) (.slice a7 n7 c7) sg) (st_eq fun _ _ => trivial) hN ?_
      clear hK K hN hRb hb2
      generalize wx.heap.size = bt
      clear wx
      refine anyS_last 11 (by kernel_rfl) rfl rfl (by kernel_rfl) (by kernel_rfl) (fun wd hWd K hK => ?_)
      have hQz := Box.mk hWd
      have hQ := Box.mk (hQz.out.sto X (.slice a7 n7 c7))
      have q0 := hQz.out.cells.1
      have q1 := hQz.out.cells.2.1
      have f0 := hQz.out.b6.free 0
      have f1 := hQz.out.b6.free 1
      clear hWd
      go_simp
      refine hK _ _ ?_
      clear hK K q0 q1 f0 f1 hQz
      generalize ((wd.setCell ⟨bt, 0, none⟩ (.string X)).setCell ⟨bt, 1, none⟩ (.slice a7 n7 c7)) = wq at hQ ⊢
      clear wd
      obtain ⟨a0, a1, c0, c1, f0, f1⟩ := hQ.out.cells
      obtain ⟨a8, c8, e8, hF⟩ := hFm.out wq _ hQ.out.row
      rw [hn7.out] at e8 hF
      cases e8
      clear hFm
      cases hg : gN (X, sg) with
      | false =>
        have hv := Box.mk (rd_none (hcd.out.2 (.inl hg)))
        rw [fmV_no hg] at hF
        clear hcd hg
        go_wp2_with fail
        refine hF.mono ?_
        clear hF a0 a1 c0 c1 f0 f1
        rintro e w5 ⟨rfl, hb5⟩
        replace hQ := Box.mk (hQ.out.on hb5)
        obtain ⟨a0, a1, c0, c1, f0, f1⟩ := hQ.out.cells
        clear hb5
        go_wp2_with fail
        have hN0 : SgRow w w5 (.slice none 0 0) [] := ⟨Pk.Row.nil _ _ _, (fun k hk => by cases hk), hQ.out.row.bel⟩
        have hf := fin2_out hQ.out.b2 hN0 (.string ⟨#[]⟩) (.slice none 0 0)
        unfold fin2 at hf
        obtain ⟨k0, k1, hbf⟩ := hf
        clear c0 c1 f0 f1 a0 a1
        refine bodyPost_ret (v := .tuple #[.agg #[.string ⟨#[]⟩, .slice none 0 0], .int .i64 3]) (by simp [results, Tryz.results5, go_sem, k0, k1]; try rfl) rfl ⟨_, by rw [hv.out.1, hv.out.2.2], by rw [hv.out.2.1]; exact hbf⟩
      | true =>
        rw [fmV_yes hg] at hF
        obtain ⟨T, hT⟩ : ∃ T : ByteArray, (⟨(byN (X, sg)).toArray⟩ : ByteArray) = T := ⟨_, rfl⟩
        rw [hT] at hF hcd
        have hqs := tl_eq T s
        by_cases he : T = s
        · have hv := Box.mk (rd_some (hcd.out.1 hg he))
          simp only at hv
          have hq2 : (T.toList != s.toList) = false := by rw [bne, hqs, decide_eq_true he]; rfl
          rw [decide_eq_true he] at hqs
          clear hcd hg hT he
          go_wp2_with fail
          refine hF.mono ?_
          clear hF a0 a1 c0 c1 f0 f1
          rintro e w5 ⟨rfl, hb5⟩
          replace hQ := Box.mk (hQ.out.on hb5)
          obtain ⟨a0, a1, c0, c1, f0, f1⟩ := hQ.out.cells
          clear hb5
          go_wp2_with fail
          have hf := fin2_out hQ.out.b2 hQ.out.row (.string X) (.slice a7 n7 c7)
          unfold fin2 at hf
          obtain ⟨k0, k1, hbf⟩ := hf
          clear c0 c1 f0 f1 a0 a1
          refine bodyPost_ret (v := .tuple #[.agg #[.string X, .slice a7 n7 c7], .int .i64 0]) (by simp [results, Tryz.results5, go_sem, k0, k1]; try rfl) rfl ⟨_, by rw [hv.out.1, hv.out.2.2], by rw [hv.out.2.1]; exact hbf⟩
        · have hv := Box.mk (rd_none (hcd.out.2 (.inr he)))
          have hq2 : (T.toList != s.toList) = true := by rw [bne, hqs, decide_eq_false he]; rfl
          rw [decide_eq_false he] at hqs
          clear hcd hg hT he
          go_wp2_with fail
          refine hF.mono ?_
          clear hF a0 a1 c0 c1 f0 f1
          rintro e w5 ⟨rfl, hb5⟩
          replace hQ := Box.mk (hQ.out.on hb5)
          obtain ⟨a0, a1, c0, c1, f0, f1⟩ := hQ.out.cells
          clear hb5
          go_wp2_with fail
          have hN0 : SgRow w w5 (.slice none 0 0) [] := ⟨Pk.Row.nil _ _ _, (fun k hk => by cases hk), hQ.out.row.bel⟩
          have hf := fin2_out hQ.out.b2 hN0 (.string ⟨#[]⟩) (.slice none 0 0)
          unfold fin2 at hf
          obtain ⟨k0, k1, hbf⟩ := hf
          clear c0 c1 f0 f1 a0 a1
          refine bodyPost_ret (v := .tuple #[.agg #[.string ⟨#[]⟩, .slice none 0 0], .int .i64 3]) (by simp [results, Tryz.results5, go_sem, k0, k1]; try rfl) rfl ⟨_, by rw [hv.out.1, hv.out.2.2], by rw [hv.out.2.1]; exact hbf⟩
    · go_simp
      refine hK _ _ (PK wa wb.heap.size [.string ⟨#[]⟩, .slice none 0 0] 29) (st_eq fun _ _ => trivial) (PK.new hWb _ _) ?_
      clear hK K hWb
      generalize wb.heap.size = bt
      clear wb
      refine anyS_forced 8 (by kernel_rfl) rfl rfl (fun wb hWb K hK => ?_)
      obtain ⟨hWb1, hWb2, hWb3⟩ := hWb
      have hF := hRs.out wb (mono_bel hBa.out hWb1 (Nat.le_refl _))
      go_simp
      refine hF.mono ?_
      rintro e wc ⟨v, rfl, hR0⟩
      have hR : SgRow w wc v sg := hR0.base (mono_bel hBa.out hWb1 (Nat.le_refl _))
      have hb2 : Pk.Blk wc w.heap.size [.string ⟨#[]⟩, .slice none 0 0] 29 := (hR0.bel.block _ (Nat.lt_of_lt_of_le hSa.out.lt hWb1.size)).trans ((hWb1.block _ hSa.out.lt).trans hSa.out)
      have hb6 : Pk.Blk wc bt [.string ⟨#[]⟩, .slice none 0 0] 29 := (hR0.bel.block _ hWb2.lt).trans hWb2
      have hlt : w.heap.size < bt := Nat.lt_of_lt_of_le hSa.out.lt hWb3
      obtain ⟨a7, c7, rfl⟩ := hR.row.shape
      obtain ⟨n7, hn7⟩ : ∃ n, sg.length = n := ⟨_, rfl⟩
      have hRb := Box.mk hR
      rw [hn7] at hRb
      rw [hn7]
      replace hn7 := Box.mk hn7
      have hN : N2 w bt ⟨#[]⟩ (.slice none 0 0) (.slice a7 n7 c7) sg wc := ⟨hb2, hb6, hRb.out, hlt⟩
      refine hK _ _ (N2 w bt ⟨#[]⟩ (.slice none 0 0) (.slice a7 n7 c7) sg) (st_eq fun _ _ => trivial) hN ?_
      clear hK K hF hWb1 hWb2 hWb3 hR0 hR hRs hN hb2 hb6 hlt hRb
      refine anyS_calms [9] 1 rfl (fun _ => rfl) (st_eq fun _ _ => trivial) (by kernel_rfl) (by kernel_rfl) (by kernel_rfl) ?_
      simp [nth]
      try simp only [Act.put, List.setIfInBounds_toArray, List.set_cons_succ, List.set_cons_zero]
      repeat (go_big_quiet_step (first | exact fun _ => rfl | rfl))
      refine wpQuiet_nil ?_
      refine anyS_last 11 (by kernel_rfl) rfl rfl (by kernel_rfl) (by kernel_rfl) (fun wd hWd K hK => ?_)
      have hQz := Box.mk hWd
      have hQ := Box.mk (hQz.out.sto X (.slice a7 n7 c7))
      have q0 := hQz.out.cells.1
      have q1 := hQz.out.cells.2.1
      have f0 := hQz.out.b6.free 0
      have f1 := hQz.out.b6.free 1
      clear hWd
      go_simp
      refine hK _ _ ?_
      clear hK K q0 q1 f0 f1 hQz
      generalize ((wd.setCell ⟨bt, 0, none⟩ (.string X)).setCell ⟨bt, 1, none⟩ (.slice a7 n7 c7)) = wq at hQ ⊢
      clear wd
      obtain ⟨a0, a1, c0, c1, f0, f1⟩ := hQ.out.cells
      obtain ⟨a8, c8, e8, hF⟩ := hFm.out wq _ hQ.out.row
      rw [hn7.out] at e8 hF
      cases e8
      clear hFm
      cases hg : gN (X, sg) with
      | false =>
        have hv := Box.mk (rd_none (hcd.out.2 (.inl hg)))
        rw [fmV_no hg] at hF
        clear hcd hg
        go_wp2_with fail
        refine hF.mono ?_
        clear hF a0 a1 c0 c1 f0 f1
        rintro e w5 ⟨rfl, hb5⟩
        replace hQ := Box.mk (hQ.out.on hb5)
        obtain ⟨a0, a1, c0, c1, f0, f1⟩ := hQ.out.cells
        clear hb5
        go_wp2_with fail
        have hN0 : SgRow w w5 (.slice none 0 0) [] := ⟨Pk.Row.nil _ _ _, (fun k hk => by cases hk), hQ.out.row.bel⟩
        have hf := fin2_out hQ.out.b2 hN0 (.string ⟨#[]⟩) (.slice none 0 0)
        unfold fin2 at hf
        obtain ⟨k0, k1, hbf⟩ := hf
        clear c0 c1 f0 f1 a0 a1
        refine bodyPost_ret (v := .tuple #[.agg #[.string ⟨#[]⟩, .slice none 0 0], .int .i64 3]) (by simp [results, Tryz.results5, go_sem, k0, k1]; try rfl) rfl ⟨_, by rw [hv.out.1, hv.out.2.2], by rw [hv.out.2.1]; exact hbf⟩
      | true =>
        rw [fmV_yes hg] at hF
        obtain ⟨T, hT⟩ : ∃ T : ByteArray, (⟨(byN (X, sg)).toArray⟩ : ByteArray) = T := ⟨_, rfl⟩
        rw [hT] at hF hcd
        have hqs := tl_eq T s
        by_cases he : T = s
        · have hv := Box.mk (rd_some (hcd.out.1 hg he))
          simp only at hv
          have hq2 : (T.toList != s.toList) = false := by rw [bne, hqs, decide_eq_true he]; rfl
          rw [decide_eq_true he] at hqs
          clear hcd hg hT he
          go_wp2_with fail
          refine hF.mono ?_
          clear hF a0 a1 c0 c1 f0 f1
          rintro e w5 ⟨rfl, hb5⟩
          replace hQ := Box.mk (hQ.out.on hb5)
          obtain ⟨a0, a1, c0, c1, f0, f1⟩ := hQ.out.cells
          clear hb5
          go_wp2_with fail
          have hf := fin2_out hQ.out.b2 hQ.out.row (.string X) (.slice a7 n7 c7)
          unfold fin2 at hf
          obtain ⟨k0, k1, hbf⟩ := hf
          clear c0 c1 f0 f1 a0 a1
          refine bodyPost_ret (v := .tuple #[.agg #[.string X, .slice a7 n7 c7], .int .i64 0]) (by simp [results, Tryz.results5, go_sem, k0, k1]; try rfl) rfl ⟨_, by rw [hv.out.1, hv.out.2.2], by rw [hv.out.2.1]; exact hbf⟩
        · have hv := Box.mk (rd_none (hcd.out.2 (.inr he)))
          have hq2 : (T.toList != s.toList) = true := by rw [bne, hqs, decide_eq_false he]; rfl
          rw [decide_eq_false he] at hqs
          clear hcd hg hT he
          go_wp2_with fail
          refine hF.mono ?_
          clear hF a0 a1 c0 c1 f0 f1
          rintro e w5 ⟨rfl, hb5⟩
          replace hQ := Box.mk (hQ.out.on hb5)
          obtain ⟨a0, a1, c0, c1, f0, f1⟩ := hQ.out.cells
          clear hb5
          go_wp2_with fail
          have hN0 : SgRow w w5 (.slice none 0 0) [] := ⟨Pk.Row.nil _ _ _, (fun k hk => by cases hk), hQ.out.row.bel⟩
          have hf := fin2_out hQ.out.b2 hN0 (.string ⟨#[]⟩) (.slice none 0 0)
          unfold fin2 at hf
          obtain ⟨k0, k1, hbf⟩ := hf
          clear c0 c1 f0 f1 a0 a1
          refine bodyPost_ret (v := .tuple #[.agg #[.string ⟨#[]⟩, .slice none 0 0], .int .i64 3]) (by simp [results, Tryz.results5, go_sem, k0, k1]; try rfl) rfl ⟨_, by rw [hv.out.1, hv.out.2.2], by rw [hv.out.2.1]; exact hbf⟩
end Go.Proofs.YthkfefkcjcgfkaaGreatDoor.Nt
