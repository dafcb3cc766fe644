/- Notes and signatures that came in, where their bulk is bounded. | Walk of law 11's NoteFormats. | Walks of note.Add and of the document's Add. | Walk of the document's Add and of law 11's NoteAdds. -/
import Derived.Deep.SlicePairs
import Derived.Test.YtdjppgmaokcgiaaDoorNtV
import Derived.Test.YtdjppgmaokcgiaaDoorNtE
import Derived.Test.YtdjppgmaokcgiaaDoorNtF
import Derived.Test.YtdjppgmaokcgiaaDoorNMq
namespace Go.Proofs.YtdjppgmaokcgiaaDoor.Nt
open Go Go.ChangeShapes Go.WideShapes Go.ChangeAt Go.RowKit Go.ChangeMaps

theorem choose_list {α : Type} [Inhabited α] {P : Nat → α → Prop} : ∀ n : Nat, (∀ i, i < n → ∃ x, P i x) → ∃ l : List α, l.length = n ∧ ∀ i, i < n → P i (l.getD i default)
  | 0, _ => ⟨[], rfl, fun i hi => by omega⟩
  | n + 1, h => by
    obtain ⟨l, hl, hP⟩ := choose_list n fun i hi => h i (by omega)
    obtain ⟨x, hx⟩ := h n (by omega)
    refine ⟨l ++ [x], by simp [hl], fun i hi => ?_⟩
    by_cases e : i = n
    · subst e
      simpa [List.getD, ← hl] using hx
    · have h1 : i < l.length := by omega
      have := hP i (by omega)
      simpa [List.getD, List.getElem?_append_left h1] using this
theorem bulk_one {H : Type} (d : DataW H) : 1 ≤ Rows.uptoBulk d := by
  cases d with
  | lit l => cases l <;> simp [Rows.uptoBulk]
  | _ => simp [Rows.uptoBulk]
theorem all_mem {H : Type} : ∀ (l : List (DataW H)) (x : DataW H), x ∈ l → Rows.uptoBulk x ≤ Rows.uptoBulkAll l
  | [], x, h => by cases h
  | y :: l, x, h => by
    rw [Rows.uptoBulkAll]
    rcases List.mem_cons.1 h with rfl | h
    · omega
    · have := all_mem l x h; omega
theorem all_len {H : Type} : ∀ (l : List (DataW H)), l.length ≤ Rows.uptoBulkAll l
  | [] => Nat.zero_le _
  | y :: l => by
    rw [Rows.uptoBulkAll, List.length_cons]
    have h1 := bulk_one y
    have h2 := all_len l
    omega
set_option maxRecDepth 100000 in
theorem sigs_trod {H : Type} {enc : TypeId × Value → H} {W : World} {fuel : Nat} {v : Value} {x : DataW H × List MemPlace} (hf : DataW.trod enc Tryd.prog W 0 (fun _ => true) true fuel 31 [v] = some x) :
    ∃ (a : Option Addr) (n c : Nat) (sg : List (ByteArray × ByteArray)), v = .slice a n c ∧ SigsAt W (.slice a n c) sg ∧ sg.length = n ∧ n ≤ Rows.uptoBulk x.1 ∧ n ≤ c ∧ c ≤ maxLen ∧ ∀ y ∈ sg, y.1.size ≤ Rows.uptoBulk x.1 ∧ y.2.size ≤ Rows.uptoBulk x.1 := by
  rcases Deep.open_slice_pairs Tryd.underlying31 Tryd.underlying39 (by kernel_rfl) rfl rfl (by kernel_rfl) (by kernel_rfl) hf with ⟨hcs, hx⟩ | ⟨a, len, cap, m, n, V0, V1, D0, D1, P0, P1, hcs, hb, hl, hm, hmm, hde, hx⟩
  · simp at hcs
    subst hcs
    exact ⟨none, 0, 0, [], rfl, ⟨none, 0, rfl, fun h => absurd h (Nat.lt_irrefl 0)⟩, rfl, Nat.zero_le _, Nat.le_refl _, Nat.zero_le _, fun y h => by cases h⟩
  · simp at hcs
    subst hcs
    simp only [if_true] at hmm
    have hx1 : x.1 = .slice ((List.range len).map fun i => .agg [D0 i, D1 i]) ((List.range (m - len)).map fun j => .agg [D0 (len + j), D1 (len + j)]) := by rw [hde]
    have each : ∀ i, i < len → ∃ r : ByteArray × ByteArray, W.cell? (a.add (i * 2)) = some (.string r.1) ∧ W.cell? (a.add (i * 2 + 1)) = some (.string r.2) ∧ r.1.size ≤ Rows.uptoBulk x.1 ∧ r.2.size ≤ Rows.uptoBulk x.1 := by
      intro i hi
      obtain ⟨k0, k1, t0, t1⟩ := hx i (by omega)
      obtain ⟨s0, e0, y0, w0⟩ := DataW.trod_string Tryd.underlying9 t0
      obtain ⟨s1, e1, y1, w1⟩ := DataW.trod_string Tryd.underlying9 t1
      simp at e0 e1
      have d0 : D0 i = .lit (.string s0.data.toList) := congrArg Prod.fst y0
      have d1 : D1 i = .lit (.string s1.data.toList) := congrArg Prod.fst y1
      have hmem : (DataW.agg [D0 i, D1 i] : DataW H) ∈ (List.range len).map fun i => .agg [D0 i, D1 i] := List.mem_map.2 ⟨i, List.mem_range.2 hi, rfl⟩
      have hbk := all_mem _ _ hmem
      have hag : Rows.uptoBulk (DataW.agg [D0 i, D1 i]) = s0.size + s1.size + 3 := by
        rw [d0, d1]
        simp only [Rows.uptoBulk, Rows.uptoBulkAll, data_len]
        omega
      have htot : Rows.uptoBulkAll ((List.range len).map fun i => .agg [D0 i, D1 i]) ≤ Rows.uptoBulk x.1 := by
        rw [hx1]
        simp only [Rows.uptoBulk]
        omega
      exact ⟨(s0, s1), by rw [k0, e0], by rw [k1, e1], by show s0.size ≤ _; omega, by show s1.size ≤ _; omega⟩
    obtain ⟨sg, hbl, hbs⟩ := choose_list len each
    have hlen : len ≤ Rows.uptoBulk x.1 := by
      have h1 := all_len ((List.range len).map fun i => (DataW.agg [D0 i, D1 i] : DataW H))
      rw [List.length_map, List.length_range] at h1
      rw [hx1]
      simp only [Rows.uptoBulk]
      omega
    refine ⟨some a, len, cap, sg, rfl, ⟨some a, cap, by rw [hbl], fun h0 => ?_⟩, hbl, hlen, hl, hm, fun y hy => ?_⟩
    · rw [hbl] at h0
      have hc0 := (hbs 0 h0).1
      rw [Nat.zero_mul] at hc0
      obtain ⟨blk, off, spot⟩ := a
      have hspot : spot = none := by simpa [Addr.add] using World.cell?_spot hc0
      subst hspot
      have hadd : ∀ j, (⟨blk, off, none⟩ : Addr).add j = ⟨blk, off + j, none⟩ := fun j => by
        unfold Addr.add
        split
        · next h => subst h; rfl
        · rfl
      refine ⟨blk, off, rfl, by simpa [Addr.add] using World.block_lt_of_cell? W _ hc0, fun i hi => ?_⟩
      rw [hbl] at hi
      obtain ⟨e0, e1, _, _⟩ := hbs i hi
      rw [hadd] at e0 e1
      exact ⟨e0, by rw [Nat.add_assoc]; exact e1⟩
    · obtain ⟨i, hi, rfl⟩ := List.getElem_of_mem hy
      have := hbs i (by omega)
      rw [show sg.getD i default = sg[i] by simp [List.getD, hi]] at this
      exact this.2.2
set_option maxRecDepth 100000 in
theorem sigs_bulk {H : Type} {enc : TypeId × Value → H} {W : World} {base : Nat} {v : Value} {d : DataW H} {p : List MemPlace}
    (hv : Value.okWide Tryd.prog W .any base 31 v) (h : DataW.Trod enc Tryd.prog W 0 (fun _ => true) true 31 v d p) :
    ∃ (a : Option Addr) (n c : Nat) (sg : List (ByteArray × ByteArray)), v = .slice a n c ∧ SigsAt W (.slice a n c) sg ∧ sg.length = n ∧ n ≤ Rows.uptoBulk d ∧ n ≤ c ∧ c ≤ maxLen ∧ ∀ y ∈ sg, y.1.size ≤ Rows.uptoBulk d ∧ y.2.size ≤ Rows.uptoBulk d := by
  obtain ⟨a0, l0, c0, rfl⟩ := okWide_slice Tryd.underlying31 hv
  obtain ⟨fuel, hf⟩ := h
  exact sigs_trod hf
set_option maxRecDepth 100000 in
theorem note_open {H : Type} {enc : TypeId × Value → H} {W : World} {base : Nat} {v : Value} {d : DataW H} {p : List MemPlace}
    (hv : Value.okWide Tryd.prog W .any base 33 v) (h : DataW.Trod enc Tryd.prog W 0 (fun _ => true) true 33 v d p) :
    ∃ (t : ByteArray) (a : Option Addr) (n c : Nat) (sg : List (ByteArray × ByteArray)), v = .agg #[.string t, .slice a n c] ∧ SigsAt W (.slice a n c) sg ∧ sg.length = n ∧ n ≤ Rows.uptoBulk d ∧ t.size ≤ Rows.uptoBulk d ∧ ∀ y ∈ sg, y.1.size ≤ Rows.uptoBulk d ∧ y.2.size ≤ Rows.uptoBulk d := by
  obtain ⟨cs, rfl, hcs⟩ := okWide_struct Tryd.underlying33 hv
  obtain ⟨fuel, hf⟩ := h
  obtain ⟨xs, m, _, hx, hl, hn, hF⟩ := DataW.trod_struct Tryd.underlying33 hf
  rw [show Tryd.prog.cellsOf 33 = 2 by kernel_rfl] at hl
  obtain ⟨l, hle⟩ : ∃ l, (Value.agg cs).cells.toList = l := ⟨_, rfl⟩
  rw [hle] at hl hF
  match l, hl, xs, hn with
  | [c0, c1], _, [x0, x1], _ =>
    have g0 : DataW.trod enc Tryd.prog W 0 (fun _ => true) true m 9 (([c0, c1].drop 0).take (Tryd.prog.cellsOf 9)) = some x0 := hF 0 _ rfl
    have g1 : DataW.trod enc Tryd.prog W 0 (fun _ => true) true m 31 (([c0, c1].drop 1).take (Tryd.prog.cellsOf 31)) = some x1 := hF 1 _ rfl
    have z1 : Tryd.prog.cellsOf 31 = 1 := by kernel_rfl
    have z3 : Tryd.prog.cellsOf 9 = 1 := by kernel_rfl
    rw [z1] at g1
    rw [z3] at g0
    simp only [List.drop_zero, List.take_succ_cons, List.take_zero, List.drop_succ_cons] at g0 g1
    obtain ⟨t, e0, y0, w0⟩ := DataW.trod_string Tryd.underlying9 g0
    obtain ⟨a, n, c, sg, e1, k1, kn, kb, _, _, ks⟩ := sigs_trod g1
    have hcv : cs = #[c0, c1] := Array.ext' (by simpa [Value.cells] using hle)
    subst hcv
    simp at e0
    subst e0 e1
    have hde : d = .agg ([x0, x1].map (·.1)) := congrArg Prod.fst hx
    have hb1 : Rows.uptoBulk x1.1 ≤ Rows.uptoBulk d := by
      rw [hde]
      simp only [List.map_cons, List.map_nil, Rows.uptoBulk, Rows.uptoBulkAll]
      omega
    have hb0 : t.size ≤ Rows.uptoBulk d := by
      have h3 : x0.1 = .lit (.string t.data.toList) := congrArg Prod.fst y0
      rw [hde]
      simp only [List.map_cons, List.map_nil, Rows.uptoBulk, Rows.uptoBulkAll, h3, data_len]
      omega
    exact ⟨t, a, n, c, sg, rfl, k1, kn, Nat.le_trans kb hb1, hb0, fun y hy => ⟨Nat.le_trans (ks y hy).1 hb1, Nat.le_trans (ks y hy).2 hb1⟩⟩
end Go.Proofs.YtdjppgmaokcgiaaDoor.Nt

namespace Go.Proofs.YtdjppgmaokcgiaaDoor.Nt
open Go Go.RowKit

theorem Row_put {w : World} {e : TypeId} {size g n c : Nat} {xs : List Value} (h : Pk.Row w e size (.slice (some ⟨g, 0, none⟩) n c) n xs) (j : Nat) (u : Value) : Pk.Row (w.setCell ⟨g, j, none⟩ u) e size (.slice (some ⟨g, 0, none⟩) n c) n (xs.set j u) := by
  obtain ⟨hx, ⟨h0, _⟩ | ⟨g2, cap, cur, e1, b1, hg, k1, k2, k3, k4⟩⟩ := h
  · cases h0
  · cases e1
    refine ⟨by rw [List.length_set]; exact hx, .inr ⟨g, c, cur.setIfInBounds j u, rfl, b1, heap_setCell_same w g j cur e u hg, k1, k2, by simpa using k3, ?_⟩⟩
    rw [Array.toList_setIfInBounds, List.take_set, k4]
theorem Row_free {w : World} {e : TypeId} {size g n c : Nat} {xs : List Value} (h : Pk.Row w e size (.slice (some ⟨g, 0, none⟩) n c) n xs) (j : Nat) : w.frozen? ⟨g, j, none⟩ = false := by
  obtain ⟨_, ⟨h0, _⟩ | ⟨g2, cap, cur, e1, b1, hg, _⟩⟩ := h
  · cases h0
  · cases e1
    exact frozen_of_row w g j cur _ hg
theorem sgC_put : ∀ (sg : List (ByteArray × ByteArray)) (i : Nat) (u : ByteArray), i < sg.length → (sgC sg).set (i * 2) (.string u) = sgC (sg.set i (u, (sg.getD i default).2))
  | [], i, u, h => by simp at h
  | x :: sg, 0, u, _ => rfl
  | x :: sg, i + 1, u, h => by
    have ih := sgC_put sg i u (by simpa using h)
    have e : ∀ (y : ByteArray × ByteArray) (l : List (ByteArray × ByteArray)), sgC (y :: l) = .string y.1 :: .string y.2 :: sgC l := fun _ _ => rfl
    rw [List.set_cons_succ, e, e, show (i + 1) * 2 = i * 2 + 1 + 1 by omega, List.set_cons_succ, List.set_cons_succ, ih]
    rfl
theorem SgRow.put1 {w0 w : World} {g n c : Nat} {sg : List (ByteArray × ByteArray)} (h : SgRow w0 w (.slice (some ⟨g, 0, none⟩) n c) sg) (i : Nat) (hi : i < sg.length) (u : ByteArray) : SgRow w0 (w.setCell ⟨g, i * 2, none⟩ (.string u)) (.slice (some ⟨g, 0, none⟩) n c) (sg.set i (u, (sg.getD i default).2)) := by
  have hg : w0.heap.size ≤ g := h.own g rfl
  have hn : n = sg.length := by
    obtain ⟨a, c2, e⟩ := h.row.shape
    cases e; rfl
  subst hn
  refine ⟨?_, h.own, h.bel.setCell (p := ⟨g, i * 2, none⟩) hg _⟩
  have := Row_put h.row (i * 2) (.string u)
  rw [sgC_put sg i u hi] at this
  rw [List.length_set]
  exact this
theorem BK.put {w0 w : World} {l : List (Nat × List Value)} {e : TypeId} {size g n c : Nat} {xs : List Value} {t : TypeId} (h : BK w0 t l w) (hr : Pk.Row w e size (.slice (some ⟨g, 0, none⟩) n c) n xs) (ht : t ≠ e) (hg : w0.heap.size ≤ g) (j : Nat) (u : Value) : BK w0 t l (w.setCell ⟨g, j, none⟩ u) :=
  ⟨h.1.setCell (p := ⟨g, j, none⟩) hg u, fun p hp => (Below.heap_setCell _ _ _ _ (by
    have := hr.apart (h.2 p hp) ht
    intro e
    apply this
    simp [Value.ownBlock]
    exact e.symm)).trans (h.2 p hp)⟩
set_option maxHeartbeats 6400000 in
set_option maxRecDepth 100000 in
theorem law_formats (t : ByteArray) (a : Option Addr) (n c : Nat) (sg : List (ByteArray × ByteArray)) (w : World) (hL : NL w.heap.size w) (hs : t.size ≤ 268435456) (hv : SigsAt w (.slice a n c) sg) (hn : sg.length = n) (hm : n ≤ 1073741824) (hz : ZS sg) :
    Calls Tryd.prog 4 #[.agg #[.string t, .slice a n c]] w fun e w' => e = .returned (.bool true) ∧ Below w.heap.size w w' := by
  have hA1 := Box.mk ((BK.start w 33).add [.string t, .slice a n c])
  have hTl := Box.mk (fun w' (h : Below w.heap.size w w') => tells_any w.heap.size w' (hL.here (Nat.le_refl _) h) h.size)
  have hF1 := Box.mk (fun w' (h : Below w.heap.size w w') => format_any t a n c sg w.heap.size w' (hL.here (Nat.le_refl _) h) h.size (by omega) (hv.here h) hn hm hz)
  have hF2 := Box.mk (fun w' (h : Below w.heap.size w w') => dformat_any t a n c sg w' (by omega) (hv.here h) hn hm)
  cases hg : gN (t, sg) with
  | false =>
    rw [fmV_no hg] at hF1 hF2
    clear hL hv hn hm hz hs hg
    go_enter Tryd.func4, Tryd.ntmps4
    go_wp2_with fail
    have hF := hTl.out _ hA1.out.1
    refine hF.mono ?_
    clear hF hTl
    rintro e w2 ⟨rfl, hb⟩
    have hA2 := Box.mk (hA1.out.here hb)
    obtain ⟨a0, a1⟩ := hA2.out.get2 (List.mem_singleton.2 rfl)
    have hF := hF1.out w2 hA2.out.1
    clear hb hA1
    go_wp2_with fail
    refine hF.mono ?_
    clear hF a0 a1
    rintro e w3 ⟨rfl, hb⟩
    have hA3 := Box.mk (hA2.out.here hb)
    obtain ⟨a0, a1⟩ := hA3.out.get2 (List.mem_singleton.2 rfl)
    have hF := hF2.out w3 hA3.out.1
    clear hb hA2
    go_wp2_with fail
    refine hF.mono ?_
    clear hF a0 a1
    rintro e w4 ⟨rfl, hb⟩
    have hB := Box.mk (mono_bel hA3.out.1 hb (Nat.le_refl _))
    clear hb hA3
    go_wp2_with fail
    go_ret
    exact ⟨rfl, hB.out⟩
  | true =>
    rw [fmV_yes hg] at hF1 hF2
    have h16 := (gN_iff.1 hg).2.1
    have hln := byN_len hg
    obtain ⟨S, hS⟩ : ∃ S : ByteArray, (⟨(byN (t, sg)).toArray⟩ : ByteArray) = S := ⟨_, rfl⟩
    have hSz : S.size ≤ 536870912 := by rw [← hS]; show (byN (t, sg)).length ≤ _; omega
    have hrs := rd_some (s := S) (by rw [← hS]; exact rdN_by hg)
    simp only at hrs
    have hR1 := Box.mk (fun w' (h : Below w.heap.size w w') => read_any S w.heap.size w' (hL.here (Nat.le_refl _) h) h.size (by omega))
    unfold RdI at hR1
    rw [hrs.1, hrs.2.1, hrs.2.2] at hR1
    rw [hS] at hF1 hF2
    have hvB := Box.mk hv
    replace hn := Box.mk hn
    rw [hn.out] at h16
    clear hL hv hz hs hg hln hS hSz hrs hm
    go_enter Tryd.func4, Tryd.ntmps4
    go_wp2_with fail
    have hF := hTl.out _ hA1.out.1
    refine hF.mono ?_
    clear hF hTl
    rintro e w2 ⟨rfl, hb⟩
    have hA2 := Box.mk (hA1.out.here hb)
    obtain ⟨a0, a1⟩ := hA2.out.get2 (List.mem_singleton.2 rfl)
    have hF := hF1.out w2 hA2.out.1
    clear hb hA1
    go_wp2_with fail
    refine hF.mono ?_
    clear hF a0 a1
    rintro e w3 ⟨rfl, hb⟩
    have hA3 := Box.mk (hA2.out.here hb)
    obtain ⟨a0, a1⟩ := hA3.out.get2 (List.mem_singleton.2 rfl)
    have hF := hF2.out w3 hA3.out.1
    clear hb hA2
    go_wp2_with fail
    refine hF.mono ?_
    clear hF a0 a1
    rintro e w4 ⟨rfl, hb⟩
    have hA4 := Box.mk (hA3.out.here hb)
    have hF := hR1.out w4 hA4.out.1
    clear hb hA3
    go_wp2_with fail
    refine hF.mono ?_
    clear hF
    rintro e w5 ⟨v5, rfl, hr5⟩
    obtain ⟨a5, c5, rfl⟩ := hr5.row.shape
    have hS5 : Box (SgRow w w5 (.slice a5 n c5) sg) := ⟨by have := hr5.base hA4.out.1; rw [hn.out] at this; exact this⟩
    rw [hn.out]
    have hA5 := Box.mk ((hA4.out.here hr5.bel).add [.string t, .slice a5 n c5])
    have hS6 := Box.mk (hS5.out.here (bel_alloc w5 (.cells #[.string t, .slice a5 n c5] 33)))
    have hF := same2_any t a5 a n c5 c sg _ (by have := hS6.out.sigs; exact this) (hvB.out.here hA5.out.1) hn.out (by unfold maxLen; omega)
    obtain ⟨b5, hb5⟩ : ∃ b, w5.heap.size = b := ⟨_, rfl⟩
    rw [hb5] at hA5
    obtain ⟨c0, c1⟩ := hA5.out.get2 (b := b5) (List.mem_cons.2 (.inl rfl))
    obtain ⟨d0, d1⟩ := hA5.out.get2 (b := w.heap.size) (List.mem_cons.2 (.inr (List.mem_singleton.2 rfl)))
    clear hr5 hS5 hA4
    go_wp2_with fail
    refine hF.mono ?_
    clear hF c0 c1 d0 d1
    rintro e w7 ⟨rfl, hb⟩
    have hA7 := Box.mk (hA5.out.here hb)
    have hS7 := Box.mk (hS6.out.here hb)
    obtain ⟨c0, c1⟩ := hA7.out.get2 (b := b5) (List.mem_cons.2 (.inl rfl))
    have hrel0 : Box (BK w 33 [(b5, [.string t, .slice a5 n c5]), (w.heap.size, [.string t, .slice a n c])] w7 ∧ SgRow w w7 (.slice a5 n c5) sg) := ⟨hA7.out, hS7.out⟩
    clear hb hA5 hb5 hS6 hA7 hS7
    go_wp2_with fail
    go_loopw [60] (fun q wr => ∃ (i : Nat) (sq : List (ByteArray × ByteArray)), i ≤ n ∧ q = .int .i64 (i : Int) ∧ sq.length = n ∧ Box (BK w 33 [(b5, [.string t, .slice a5 n c5]), (w.heap.size, [.string t, .slice a n c])] wr ∧ SgRow w wr (.slice a5 n c5) sq)) (fun q _ => n - (intOf q).toNat)
    case atStart => exact ⟨0, sg, by omega, rfl, hn.out, hrel0⟩
    case round =>
      clear hrel0 c0 c1
      obtain ⟨i, sq, hi, rfl, hq, hA⟩ := hrel
      replace hq := Box.mk hq
      obtain ⟨c0, c1⟩ := hA.out.1.get2 (b := b5) (List.mem_cons.2 (.inl rfl))
      by_cases hlt : i < n
      · have hig : i < sq.length := by rw [hq.out]; exact hlt
        have hrow := hA.out.2.row
        rw [hq.out] at hrow
        obtain ⟨g, cg, e1, hgl⟩ := hrow.some (by omega)
        cases e1
        have k0 : wr.cell? ⟨g, i * 2, none⟩ = some (.string (sq.getD i default).1) := hrow.cells _ _ (sgC_get sq i hig).1
        have f0 := Row_free hrow (i * 2)
        have hii : (i : Int) < (n : Int) := by omega
        have hnx : Box (BK w 33 [(b5, [.string t, .slice (some ⟨g, 0, none⟩) n c5]), (w.heap.size, [.string t, .slice a n c])] (wr.setCell ⟨g, i * 2, none⟩ (.string ⟨#[115, 112, 111, 105, 108, 116]⟩)) ∧ SgRow w (wr.setCell ⟨g, i * 2, none⟩ (.string ⟨#[115, 112, 111, 105, 108, 116]⟩)) (.slice (some ⟨g, 0, none⟩) n c5) (sq.set i (⟨#[115, 112, 111, 105, 108, 116]⟩, (sq.getD i default).2))) :=
          ⟨hA.out.1.put hrow (by decide) (hA.out.2.own g rfl) _ _, hA.out.2.put1 i hig _⟩
        obtain ⟨z, hzz⟩ : ∃ z, (sq.getD i default).1 = z := ⟨_, rfl⟩
        rw [hzz] at k0
        clear hrow hA hzz
        go_wp2_with fail
        exact ⟨⟨i + 1, _, by omega, by go_num, by rw [List.length_set]; exact hq.out, hnx⟩, by simp [intOf]; omega⟩
      · obtain rfl : i = n := by omega
        have hF := hR1.out wr hA.out.1.1
        clear c0 c1
        go_wp2_with fail
        refine hF.mono ?_
        clear hF
        rintro e w8 ⟨v8, rfl, hr8⟩
        obtain ⟨a8, c8, rfl⟩ := hr8.row.shape
        have hS8 : Box (SgRow w w8 (.slice a8 i c8) sg) := ⟨by have := hr8.base hA.out.1.1; rw [hn.out] at this; exact this⟩
        rw [hn.out]
        have hA8 := Box.mk ((hA.out.1.here hr8.bel).add [.string t, .slice a8 i c8])
        have hS9 := Box.mk (hS8.out.here (bel_alloc w8 (.cells #[.string t, .slice a8 i c8] 33)))
        have hF := same2_any t a8 a i c8 c sg _ (by have := hS9.out.sigs; exact this) (hvB.out.here hA8.out.1) hn.out (by unfold maxLen; omega)
        obtain ⟨b8, hb8⟩ : ∃ b, w8.heap.size = b := ⟨_, rfl⟩
        rw [hb8] at hA8
        obtain ⟨e0, e1⟩ := hA8.out.get2 (b := b8) (List.mem_cons.2 (.inl rfl))
        obtain ⟨d0, d1⟩ := hA8.out.get2 (b := w.heap.size) (List.mem_cons.2 (.inr (List.mem_cons.2 (.inr (List.mem_singleton.2 rfl)))))
        clear hr8 hS8 hA
        go_wp2_with fail
        refine hF.mono ?_
        clear hF e0 e1 d0 d1
        rintro e w9 ⟨rfl, hb⟩
        have hB := Box.mk (mono_bel hA8.out.1 hb (Nat.le_refl _))
        clear hb hA8 hb8 hS9
        go_wp2_with fail
        go_ret
        exact ⟨rfl, hB.out⟩
end Go.Proofs.YtdjppgmaokcgiaaDoor.Nt

namespace Go.Proofs.YtdjppgmaokcgiaaDoor.Nt
open Go Go.RowKit

theorem sgC_set : ∀ (sg : List (ByteArray × ByteArray)) (i : Nat) (x : ByteArray × ByteArray), i < sg.length → ((sgC sg).set (i * 2) (.string x.1)).set (i * 2 + 1) (.string x.2) = sgC (sg.set i x)
  | [], i, x, h => by simp at h
  | y :: sg, 0, x, _ => rfl
  | y :: sg, i + 1, x, h => by
    have ih := sgC_set sg i x (by simpa using h)
    have e : ∀ (y : ByteArray × ByteArray) (l : List (ByteArray × ByteArray)), sgC (y :: l) = .string y.1 :: .string y.2 :: sgC l := fun _ _ => rfl
    have e1 : (y :: sg).set (i + 1) x = y :: sg.set i x := rfl
    rw [e1, e, e, show (i + 1) * 2 + 1 = i * 2 + 1 + 1 + 1 by omega, show (i + 1) * 2 = i * 2 + 1 + 1 by omega]
    simp only [List.set_cons_succ]
    rw [ih]
theorem SgRow.put2 {w0 w : World} {g n c : Nat} {sg : List (ByteArray × ByteArray)} (h : SgRow w0 w (.slice (some ⟨g, 0, none⟩) n c) sg) (i : Nat) (hi : i < sg.length) (x : ByteArray × ByteArray) : SgRow w0 ((w.setCell ⟨g, i * 2, none⟩ (.string x.1)).setCell ⟨g, i * 2 + 1, none⟩ (.string x.2)) (.slice (some ⟨g, 0, none⟩) n c) (sg.set i x) := by
  have hg : w0.heap.size ≤ g := h.own g rfl
  have hn : n = sg.length := by
    obtain ⟨a, c2, e⟩ := h.row.shape
    cases e; rfl
  subst hn
  refine ⟨?_, h.own, (h.bel.setCell (p := ⟨g, i * 2, none⟩) hg _).setCell (p := ⟨g, i * 2 + 1, none⟩) hg _⟩
  have := Row_put (Row_put h.row (i * 2) (.string x.1)) (i * 2 + 1) (.string x.2)
  rw [sgC_set sg i x hi] at this
  rw [List.length_set]
  exact this
/-- In Add: the note, the row of its signatures. -/
structure AdAt (w0 : World) (bt : Nat) (t : ByteArray) (u v : Value) (sg : List (ByteArray × ByteArray)) (w : World) : Prop where
  b6 : Pk.Blk w bt [.string t, u] 33
  row : SgRow w0 w v sg
  ge : w0.heap.size ≤ bt
theorem AdAt.on {w0 w w' : World} {bt : Nat} {t : ByteArray} {u v : Value} {sg : List (ByteArray × ByteArray)} (h : AdAt w0 bt t u v sg w) (hb : Below w.heap.size w w') : AdAt w0 bt t u v sg w' := ⟨(hb.block _ h.b6.lt).trans h.b6, h.row.here hb, h.ge⟩
theorem AdAt.cells {w0 w : World} {bt : Nat} {t : ByteArray} {u v : Value} {sg : List (ByteArray × ByteArray)} (h : AdAt w0 bt t u v sg w) : w.cell? ⟨bt, 0, none⟩ = some (.string t) ∧ w.cell? ⟨bt, 1, none⟩ = some u := ⟨h.b6.cell 0, h.b6.cell 1⟩
theorem AdAt.new {w0 w : World} {v : Value} {sg : List (ByteArray × ByteArray)} (h : SgRow w0 w v sg) (t : ByteArray) : AdAt w0 w.heap.size t v v sg (w.alloc (.cells #[.string t, v] 33)) := ⟨Pk.Blk.new w [.string t, v] _, h.here (bel_alloc _ _), h.bel.size⟩
theorem AdAt.put2 {w0 w : World} {bt g n c : Nat} {t : ByteArray} {sg : List (ByteArray × ByteArray)} (h : AdAt w0 bt t (.slice (some ⟨g, 0, none⟩) n c) (.slice (some ⟨g, 0, none⟩) n c) sg w) (i : Nat) (hi : i < sg.length) (x : ByteArray × ByteArray) : AdAt w0 bt t (.slice (some ⟨g, 0, none⟩) n c) (.slice (some ⟨g, 0, none⟩) n c) (sg.set i x) ((w.setCell ⟨g, i * 2, none⟩ (.string x.1)).setCell ⟨g, i * 2 + 1, none⟩ (.string x.2)) := by
  have hap : bt ≠ g := fun e => h.row.row.apart h.b6 (by decide) (by simp [Value.ownBlock]; exact e.symm)
  exact ⟨(Below.heap_setCell _ _ _ _ hap).trans ((Below.heap_setCell _ _ _ _ hap).trans h.b6), h.row.put2 i hi x, h.ge⟩
theorem AdAt.push {w0 w w2 : World} {bt m : Nat} {t : ByteArray} {v v' : Value} {sg zs : List (ByteArray × ByteArray)} (h : AdAt w0 bt t v v sg w) (hm : zs.length = m) (hp : Pk.PushedRow w 39 2 v (sg.length + m) (sgC sg ++ sgC zs) v' w2) : AdAt w0 bt t v v' (sg ++ zs) w2 :=
  ⟨hp.chg.blk h.b6 fun e => h.row.row.apart h.b6 (by decide) e, h.row.pushL hm hp, h.ge⟩
theorem AdAt.sto1 {w0 w : World} {bt : Nat} {t : ByteArray} {u v : Value} {sg : List (ByteArray × ByteArray)} (h : AdAt w0 bt t u v sg w) (u' : Value) : AdAt w0 bt t u' v sg (w.setCell ⟨bt, 1, none⟩ u') := ⟨h.b6.setCell 1 u', h.row.setCell h.b6 (by decide) h.ge 1 _, h.ge⟩
def adV (s : ByteArray) (x : ByteArray × ByteArray) : Value := match rdN s.data.toList with
  | none => .tuple #[.string ⟨#[]⟩, .int .i64 3]
  | some n => fmV (n.1, addL n.2 x)
theorem adV_some {s : ByteArray} {n : ByteArray × List (ByteArray × ByteArray)} (h : rdN s.data.toList = some n) (x : ByteArray × ByteArray) : adV s x = fmV (n.1, addL n.2 x) := by unfold adV; rw [h]
theorem adV_none {s : ByteArray} (h : rdN s.data.toList = none) (x : ByteArray × ByteArray) : adV s x = .tuple #[.string ⟨#[]⟩, .int .i64 3] := by unfold adV; rw [h]
theorem ZS_set {sg : List (ByteArray × ByteArray)} (h : ZS sg) (i : Nat) {x : ByteArray × ByteArray} (hx : x.1.size ≤ 1073741824 ∧ x.2.size ≤ 1073741824) : ZS (sg.set i x) := fun y hy => by
  rcases List.mem_or_eq_of_mem_set hy with h1 | h1
  · exact h y h1
  · rw [h1]; exact hx
theorem ZS_snoc {sg : List (ByteArray × ByteArray)} (h : ZS sg) {x : ByteArray × ByteArray} (hx : x.1.size ≤ 1073741824 ∧ x.2.size ≤ 1073741824) : ZS (sg ++ [x]) := fun y hy => by
  rcases List.mem_append.1 hy with h1 | h1
  · exact h y h1
  · rw [List.mem_singleton.1 h1]; exact hx
set_option maxHeartbeats 6400000 in
set_option maxRecDepth 100000 in
theorem add_any (s x1 x2 : ByteArray) (B : Nat) (w : World) (hL : NL B w) (hB : B ≤ w.heap.size) (hs : s.size ≤ 536870912) (h1 : x1.size ≤ 1073741824) (h2 : x2.size ≤ 1073741824) :
    Calls Tryd.prog 17 #[.string s, .agg #[.string x1, .string x2]] w fun e w' => e = .returned (adV s (x1, x2)) ∧ Below w.heap.size w w' := by
  obtain ⟨W1, hW1⟩ : ∃ W1, w.alloc (.cells #[.string x1, .string x2] 39) = W1 := ⟨_, rfl⟩
  have hB1 : Below w.heap.size w W1 := by rw [← hW1]; exact bel_alloc _ _
  have hS1 : Pk.Blk W1 w.heap.size [.string x1, .string x2] 39 := by rw [← hW1]; exact Pk.Blk.new w _ _
  have hR := read_any s B W1 (hL.here hB hB1) (Nat.le_trans hB hB1.size) (by omega)
  obtain ⟨hZ, h16, hTz⟩ := rd_ZS (s := s)
  cases hr : rdN s.data.toList with
  | none =>
    have hv := rd_none hr
    unfold RdI at hR
    rw [hv.1, hv.2.1, hv.2.2] at hR
    rw [adV_none hr]
    replace hB1 := Box.mk hB1
    clear hv hr hZ h16 hTz hL hB hs h1 h2 hS1
    go_enter Tryd.func17, Tryd.ntmps17
    go_wp2_with fail
    refine hR.mono ?_
    clear hR
    rintro e w3 ⟨v3, rfl, hr3⟩
    obtain ⟨a3, c3, rfl⟩ := hr3.row.shape
    have hB3 := Box.mk (mono_bel hB1.out (mono_bel hr3.bel (bel_alloc w3 (.cells #[.string ⟨#[]⟩, .slice a3 (List.length ([] : List (ByteArray × ByteArray))) c3] 33)) (Nat.le_refl _)) (Nat.le_refl _))
    clear hr3
    go_wp2_with fail
    go_ret2
    exact ⟨rfl, hB3.out⟩
  | some nn =>
    obtain ⟨t, sg⟩ := nn
    have hv := rd_some hr
    simp only at hv
    rw [hv.1] at hTz
    rw [hv.2.1] at hZ h16
    unfold RdI at hR
    rw [hv.1, hv.2.1, hv.2.2] at hR
    rw [adV_some hr]
    simp only
    have hix : idxI (fun y : ByteArray × ByteArray => decide (y.1 = x1)) sg = if atI x1 sg < sg.length then (atI x1 sg : Int) else -1 := by unfold idxI; rw [← atI_fst]
    have hIx := Box.mk (fun (w' : World) a c (hw : Below W1.heap.size W1 w') (hg : SigsAt w' (.slice a sg.length c) sg) => index_same w.heap.size x1 x2 a sg.length c sg w' hg rfl (by omega) ((hw.cell (p := ⟨w.heap.size, 0, none⟩) hS1.lt).trans (hS1.cell 0)) ((hw.cell (p := ⟨w.heap.size, 1, none⟩) hS1.lt).trans (hS1.cell 1)) (Nat.lt_of_lt_of_le hS1.lt hw.size))
    have hsig := Box.mk (fun (w' : World) (hw : Below W1.heap.size W1 w') => (⟨(hw.cell (p := ⟨w.heap.size, 0, none⟩) hS1.lt).trans (hS1.cell 0), (hw.cell (p := ⟨w.heap.size, 1, none⟩) hS1.lt).trans (hS1.cell 1)⟩ : w'.cell? ⟨w.heap.size, 0, none⟩ = some (.string x1) ∧ w'.cell? ⟨w.heap.size, 1, none⟩ = some (.string x2)))
    have hFm := Box.mk (fun (w' : World) a c (sq : List (ByteArray × ByteArray)) (hw : Below w.heap.size w w') (hg : SigsAt w' (.slice a sq.length c) sq) (hz : ZS sq) (hq : sq.length ≤ 17) => format_any t a sq.length c sq B w' (hL.here hB hw) (Nat.le_trans hB hw.size) (by omega) hg rfl (by omega) hz)
    have had : addL sg (x1, x2) = if atI x1 sg < sg.length then sg.set (atI x1 sg) (x1, x2) else sg ++ [(x1, x2)] := rfl
    rw [had]
    obtain ⟨i, hi⟩ : ∃ i, atI x1 sg = i := ⟨_, rfl⟩
    rw [hi] at hix ⊢
    rw [hix] at hIx
    have hxs : x1.size ≤ 1073741824 ∧ x2.size ≤ 1073741824 := ⟨h1, h2⟩
    replace hB1 := Box.mk hB1
    clear hv hr hL hB hs h1 h2 hS1 hix had hi
    by_cases hlt : i < sg.length
    · rw [if_pos hlt] at hIx ⊢
      have hZ2 := ZS_set hZ i (x := (x1, x2)) hxs
      obtain ⟨n, hn⟩ : ∃ n, sg.length = n := ⟨_, rfl⟩
      have hFm2 := Box.mk (fun (w' : World) a c (hw : Below w.heap.size w w') (hg : SigsAt w' (.slice a n c) (sg.set i (x1, x2))) => by
        have h3 := hFm.out w' a c (sg.set i (x1, x2)) hw (by rw [List.length_set, hn]; exact hg) hZ2 (by rw [List.length_set]; omega)
        rw [List.length_set, hn] at h3
        exact h3)
      have hltn : i < n := by omega
      rw [hn] at hIx h16
      replace hn := Box.mk hn
      have hRs : ∃ F G, fmV (t, sg.set i (x1, x2)) = .tuple #[.string F, .int .i64 G] := ⟨_, _, rfl⟩
      obtain ⟨F, G, hFG⟩ := hRs
      rw [hFG] at hFm2 ⊢
      clear hFG hFm hZ hZ2 hTz hlt hxs
      go_enter Tryd.func17, Tryd.ntmps17
      go_wp2_with fail
      refine hR.mono ?_
      clear hR
      rintro e w3 ⟨v3, rfl, hr3⟩
      obtain ⟨a3, c3, rfl⟩ := hr3.row.shape
      rw [hn.out] at hr3
      rw [hn.out]
      have hA := Box.mk (AdAt.new hr3 t)
      obtain ⟨c0, c1⟩ := hA.out.cells
      have hI := hIx.out _ a3 c3 hA.out.row.bel (by have := hA.out.row.sigs; exact this)
      obtain ⟨b6, hb6⟩ : ∃ b, w3.heap.size = b := ⟨_, rfl⟩
      rw [hb6] at hA c0 c1
      clear hr3 hIx
      go_wp2_with fail
      refine hI.mono ?_
      clear hI c0 c1
      rintro e w5 ⟨rfl, hb⟩
      have hA5 := Box.mk (hA.out.on hb)
      obtain ⟨c0, c1⟩ := hA5.out.cells
      obtain ⟨s0, s1⟩ := hsig.out w5 hA5.out.row.bel
      have hrow := hA5.out.row.row
      rw [hn.out] at hrow
      obtain ⟨g, cg, e1, hgl⟩ := hrow.some (by omega)
      cases e1
      have hig : i < sg.length := by rw [hn.out]; exact hltn
      have k0 : w5.cell? ⟨g, i * 2, none⟩ = some (.string (sg.getD i default).1) := hrow.cells _ _ (sgC_get sg i hig).1
      have k1 : w5.cell? ⟨g, i * 2 + 1, none⟩ = some (.string (sg.getD i default).2) := hrow.cells _ _ (sgC_get sg i hig).2
      obtain ⟨y, hy⟩ : ∃ y, sg.getD i default = y := ⟨_, rfl⟩
      rw [hy] at k0 k1
      obtain ⟨y1, y2⟩ := y
      simp only at k0 k1
      have f0 := Row_free hrow (i * 2)
      have f1 := Row_free hrow (i * 2 + 1)
      have hA6 := Box.mk (hA5.out.put2 i hig (x1, x2))
      obtain ⟨d0, d1⟩ := hA6.out.cells
      have hB6 := Box.mk (mono_bel hB1.out hA6.out.row.bel (Nat.le_refl _))
      have hF := hFm2.out _ (some ⟨g, 0, none⟩) c3 hB6.out (by have := hA6.out.row.sigs; exact this)
      simp only at d0 d1 hF hB6
      have hii : (i : Int) < (n : Int) := by omega
      have hi63 : i ≤ 9223372036854775807 := by omega
      replace hF := Box.mk hF
      clear hb hA hb6 hrow hig hy hA5 hA6 hsig hFm2 hgl
      go_wp2_with fail
      refine hF.out.mono ?_
      clear hF c0 c1 s0 s1 k0 k1 f0 f1 d0 d1
      rintro e w7 ⟨rfl, hb⟩
      have hB7 := Box.mk (mono_bel hB6.out hb (Nat.le_refl _))
      clear hb hB6
      go_wp2_with fail
      go_ret2
      exact ⟨rfl, hB7.out⟩
    · rw [if_neg hlt] at hIx ⊢
      have hZ2 := ZS_snoc hZ (x := (x1, x2)) hxs
      obtain ⟨n, hn⟩ : ∃ n, sg.length = n := ⟨_, rfl⟩
      have hl1 : (sg ++ [(x1, x2)]).length = n + 1 := by rw [List.length_append, hn]; rfl
      have hFm2 := Box.mk (fun (w' : World) a c (hw : Below w.heap.size w w') (hg : SigsAt w' (.slice a (n + 1) c) (sg ++ [(x1, x2)])) => by
        have h3 := hFm.out w' a c (sg ++ [(x1, x2)]) hw (by rw [hl1]; exact hg) hZ2 (by rw [hl1]; omega)
        rw [hl1] at h3
        exact h3)
      rw [hn] at hIx h16
      replace hn := Box.mk hn
      have hRs : ∃ F G, fmV (t, sg ++ [(x1, x2)]) = .tuple #[.string F, .int .i64 G] := ⟨_, _, rfl⟩
      obtain ⟨F, G, hFG⟩ := hRs
      rw [hFG] at hFm2 ⊢
      clear hFG hFm hZ hZ2 hTz hlt hxs
      go_enter Tryd.func17, Tryd.ntmps17
      go_wp2_with fail
      refine hR.mono ?_
      clear hR
      rintro e w3 ⟨v3, rfl, hr3⟩
      obtain ⟨a3, c3, rfl⟩ := hr3.row.shape
      rw [hn.out] at hr3
      rw [hn.out]
      have hA := Box.mk (AdAt.new hr3 t)
      obtain ⟨c0, c1⟩ := hA.out.cells
      have hI := hIx.out _ a3 c3 hA.out.row.bel (by have := hA.out.row.sigs; exact this)
      obtain ⟨b6, hb6⟩ : ∃ b, w3.heap.size = b := ⟨_, rfl⟩
      rw [hb6] at hA c0 c1
      clear hr3 hIx
      go_wp2_with fail
      refine hI.mono ?_
      clear hI c0 c1
      rintro e w5 ⟨rfl, hb⟩
      have hA5 := Box.mk (hA.out.on hb)
      obtain ⟨c0, c1⟩ := hA5.out.cells
      obtain ⟨s0, s1⟩ := hsig.out w5 hA5.out.row.bel
      have hA6 := Box.mk (hA5.out.on (bel_alloc w5 (.cells #[.string x1, .string x2] 39)))
      have hz6 := Box.mk (sig_new w5 (x1, x2))
      have hBx := Box.mk (mono_bel hB1.out hA5.out.row.bel (Nat.le_refl _))
      clear hb hA hb6
      go_wp2_with (at_builtin; refine wpList_pushG rfl (.tmp 24) (.tmp 26) rfl _ sg.length (sgC sg) rfl hA6.out.row.row (some ⟨w5.heap.size, 0, none⟩) 1 1 [(x1, x2)] rfl rfl hz6.out (by rw [hn.out]; omega) ?_)
      intro v' w7 hp
      have hA7 := Box.mk (hA6.out.push (m := 1) rfl hp)
      obtain ⟨d0, d1⟩ := hA7.out.cells
      have g1 := hA7.out.b6.free 1
      obtain ⟨a8, c8, e8⟩ := hA7.out.row.row.shape
      rw [hl1] at e8
      subst e8
      have hA8 := Box.mk (hA7.out.sto1 (.slice a8 (n + 1) c8))
      obtain ⟨j0, j1⟩ := hA8.out.cells
      have hB8 := Box.mk (mono_bel hB1.out hA8.out.row.bel (Nat.le_refl _))
      have hF := Box.mk (hFm2.out _ a8 c8 hB8.out (by have := hA8.out.row.sigs; exact this))
      clear hp hA5 hA6 hA7 hA8 hz6 hl1 hBx hsig hFm2 c0 c1 s0 s1
      go_wp2_with fail
      refine hF.out.mono ?_
      clear hF d0 d1 j0 j1 g1
      rintro e w9 ⟨rfl, hb⟩
      have hB9 := Box.mk (mono_bel hB8.out hb (Nat.le_refl _))
      clear hb hB8
      go_wp2_with fail
      go_ret2
      exact ⟨rfl, hB9.out⟩
end Go.Proofs.YtdjppgmaokcgiaaDoor.Nt

namespace Go.Proofs.YtdjppgmaokcgiaaDoor.Nt
open Go Go.RowKit

set_option maxHeartbeats 6400000 in
set_option maxRecDepth 100000 in
theorem dadd_any (s x1 x2 : ByteArray) (w : World) (hs : s.size ≤ 536870912) :
    Calls Tryd.prog 18 #[.string s, .agg #[.string x1, .string x2]] w fun e w' => e = .returned (adV s (x1, x2)) ∧ Below w.heap.size w w' := by
  obtain ⟨W1, hW1⟩ : ∃ W1, w.alloc (.cells #[.string x1, .string x2] 39) = W1 := ⟨_, rfl⟩
  have hB1 : Below w.heap.size w W1 := by rw [← hW1]; exact bel_alloc _ _
  have hS1 : Pk.Blk W1 w.heap.size [.string x1, .string x2] 39 := by rw [← hW1]; exact Pk.Blk.new w _ _
  have hR := dread_any s W1 hs
  obtain ⟨hZ, h16, hTz⟩ := rd_ZS (s := s)
  cases hr : rdN s.data.toList with
  | none =>
    have hv := rd_none hr
    unfold RdI at hR
    rw [hv.1, hv.2.1, hv.2.2] at hR
    rw [adV_none hr]
    replace hB1 := Box.mk hB1
    clear hv hr hZ h16 hTz hs hS1
    go_enter Tryd.func18, Tryd.ntmps18
    go_wp2_with fail
    refine hR.mono ?_
    clear hR
    rintro e w3 ⟨v3, rfl, hr3⟩
    obtain ⟨a3, c3, rfl⟩ := hr3.row.shape
    have hB3 := Box.mk (mono_bel hB1.out (mono_bel hr3.bel (bel_alloc w3 (.cells #[.string ⟨#[]⟩, .slice a3 (List.length ([] : List (ByteArray × ByteArray))) c3] 33)) (Nat.le_refl _)) (Nat.le_refl _))
    clear hr3
    go_wp2_with fail
    go_ret2
    exact ⟨rfl, hB3.out⟩
  | some nn =>
    obtain ⟨t, sg⟩ := nn
    have hv := rd_some hr
    simp only at hv
    rw [hv.1] at hTz
    rw [hv.2.1] at hZ h16
    unfold RdI at hR
    rw [hv.1, hv.2.1, hv.2.2] at hR
    rw [adV_some hr]
    simp only
    have hsig := Box.mk (fun (w' : World) (hw : Below W1.heap.size W1 w') => (⟨(hw.cell (p := ⟨w.heap.size, 0, none⟩) hS1.lt).trans (hS1.cell 0), (hw.cell (p := ⟨w.heap.size, 1, none⟩) hS1.lt).trans (hS1.cell 1)⟩ : w'.cell? ⟨w.heap.size, 0, none⟩ = some (.string x1) ∧ w'.cell? ⟨w.heap.size, 1, none⟩ = some (.string x2)))
    have hFm := Box.mk (fun (w' : World) a c (sq : List (ByteArray × ByteArray)) (hg : SigsAt w' (.slice a sq.length c) sq) (hq : sq.length ≤ 17) => dformat_any t a sq.length c sq w' (by omega) hg rfl (by omega))
    have hat := atI_at x1 sg
    have hal := atI_le x1 sg
    have hR1 : Box (atI x1 sg < sg.length → ∀ (w' : World) a c, SigsAt w' (.slice a sg.length c) (sg.set (atI x1 sg) (x1, x2)) → Calls Tryd.prog 13 #[.agg #[.string t, .slice a sg.length c]] w' fun e w'' => e = .returned (fmV (t, addL sg (x1, x2))) ∧ Below w'.heap.size w' w'') := ⟨fun hlt w' a c hg => by
      have h3 := hFm.out w' a c (sg.set (atI x1 sg) (x1, x2)) (by rw [List.length_set]; exact hg) (by rw [List.length_set]; omega)
      rw [List.length_set] at h3
      rw [show addL sg (x1, x2) = sg.set (atI x1 sg) (x1, x2) by unfold addL; rw [if_pos hlt]]
      exact h3⟩
    have hR2 : Box (¬ atI x1 sg < sg.length → ∀ (w' : World) a c, SigsAt w' (.slice a (sg.length + 1) c) (sg ++ [(x1, x2)]) → Calls Tryd.prog 13 #[.agg #[.string t, .slice a (sg.length + 1) c]] w' fun e w'' => e = .returned (fmV (t, addL sg (x1, x2))) ∧ Below w'.heap.size w' w'') := ⟨fun hlt w' a c hg => by
      have hl1 : (sg ++ [(x1, x2)]).length = sg.length + 1 := by rw [List.length_append]; rfl
      have h3 := hFm.out w' a c (sg ++ [(x1, x2)]) (by rw [hl1]; exact hg) (by rw [hl1]; omega)
      rw [hl1] at h3
      rw [show addL sg (x1, x2) = sg ++ [(x1, x2)] by unfold addL; rw [if_neg hlt]]
      exact h3⟩
    have hRs : ∃ F G, fmV (t, addL sg (x1, x2)) = .tuple #[.string F, .int .i64 G] := ⟨_, _, rfl⟩
    obtain ⟨F, G, hFG⟩ := hRs
    rw [hFG] at hR1 hR2 ⊢
    obtain ⟨k, hk⟩ : ∃ k, atI x1 sg = k := ⟨_, rfl⟩
    obtain ⟨n, hn⟩ : ∃ n, sg.length = n := ⟨_, rfl⟩
    rw [hk, hn] at hR1 hR2 hal
    rw [hk, hn] at hat
    rw [hn] at h16
    replace hn := Box.mk hn
    replace hat := Box.mk hat
    replace hB1 := Box.mk hB1
    clear hv hr hZ hTz hs hS1 hFG hFm hk
    go_enter Tryd.func18, Tryd.ntmps18
    go_wp2_with fail
    refine hR.mono ?_
    clear hR
    rintro e w3 ⟨v3, rfl, hr3⟩
    obtain ⟨a3, c3, rfl⟩ := hr3.row.shape
    rw [hn.out] at hr3
    rw [hn.out]
    have hA := Box.mk (AdAt.new hr3 t)
    obtain ⟨b6, hb6⟩ : ∃ b, w3.heap.size = b := ⟨_, rfl⟩
    rw [hb6] at hA
    clear hr3
    go_wp2_with fail
    go_loopw [8, 9] (fun th q wr => ∃ j : Nat, j ≤ k ∧ q = .int .i64 (j : Int) ∧ th = .bool false ∧ Box (AdAt W1 b6 t (.slice a3 n c3) (.slice a3 n c3) sg wr)) (fun _ q _ => n - (intOf q).toNat)
    case atStart => exact ⟨0, by omega, rfl, rfl, hA⟩
    case round =>
      clear hA hb6
      obtain ⟨j, hj, rfl, rfl, hA⟩ := hrel
      obtain ⟨c0, c1⟩ := hA.out.cells
      by_cases hlt : j < n
      · have hig : j < sg.length := by rw [hn.out]; exact hlt
        have hrow := hA.out.row.row
        rw [hn.out] at hrow
        obtain ⟨g, cg, e1, hgl⟩ := hrow.some (by omega)
        cases e1
        have hka := hat.out j hj
        have hcc := Box.mk (fun (w' : World) (hw : Below wr.heap.size wr w') => (⟨(row_here hrow hw).cells _ _ (sgC_get sg j hig).1, (row_here hrow hw).cells _ _ (sgC_get sg j hig).2, Row_free (row_here hrow hw) (j * 2), Row_free (row_here hrow hw) (j * 2 + 1)⟩ : w'.cell? ⟨g, j * 2, none⟩ = some (.string (sg.getD j default).1) ∧ w'.cell? ⟨g, j * 2 + 1, none⟩ = some (.string (sg.getD j default).2) ∧ w'.frozen? ⟨g, j * 2, none⟩ = false ∧ w'.frozen? ⟨g, j * 2 + 1, none⟩ = false))
        obtain ⟨y, hy⟩ : ∃ y, sg.getD j default = y := ⟨_, rfl⟩
        rw [hy] at hcc hka
        obtain ⟨y1, y2⟩ := y
        simp only at hcc hka
        obtain ⟨k0, k1, f0, f1⟩ := hcc.out wr (Below.refl _ _)
        obtain ⟨s0, s1⟩ := hsig.out wr hA.out.row.bel
        have hqs := tl_eq y1 x1
        have hii : (j : Int) < (n : Int) := by omega
        by_cases he : y1 = x1
        · have hjk : j = k := by
            rcases Nat.lt_or_ge j k with h | h
            · exact absurd he (hka.2 h).2
            · omega
          rw [decide_eq_true he] at hqs
          subst hjk
          clear hka he hy f0 f1 hrow
          go_wp2_with fail
          go_quiet (fail)
          have hbd : Below wr.heap.size wr (wr.drewN nq) := Drawn.below ⟨nq, rfl⟩
          have hA2 := Box.mk (hA.out.on hbd)
          obtain ⟨k0', k1', f0, f1⟩ := hcc.out _ hbd
          obtain ⟨s0', s1'⟩ := hsig.out _ hA2.out.row.bel
          obtain ⟨c0', c1'⟩ := hA2.out.cells
          obtain ⟨wq, hwq⟩ : ∃ wq, wr.drewN nq = wq := ⟨_, rfl⟩
          rw [hwq] at hA2 k0' k1' f0 f1 s0' s1' c0' c1' ⊢
          have hA3 := Box.mk (hA2.out.put2 j hig (x1, x2))
          obtain ⟨d0, d1⟩ := hA3.out.cells
          have hF := Box.mk (hR1.out hlt _ (some ⟨g, 0, none⟩) c3 (by have h9 := hA3.out.row.sigs; exact h9))
          simp only at d0 d1 hF hA3
          have hB3 := Box.mk (mono_bel hB1.out hA3.out.row.bel (Nat.le_refl _))
          clear hbd hwq hA hA2 hA3 k0 k1 s0 s1 c0 c1 hcc hig hR1 hR2
          go_wp2_with fail
          refine hF.out.mono ?_
          clear hF d0 d1 k0' k1' f0 f1 s0' s1' c0' c1'
          rintro e w9 ⟨rfl, hb⟩
          have hB9 := Box.mk (mono_bel hB3.out hb (Nat.le_refl _))
          clear hb hB3
          go_wp2_with fail
          go_ret2
          exact ⟨rfl, hB9.out⟩
        · have hjk : j < k := hka.1 ⟨hlt, he⟩
          rw [decide_eq_false he] at hqs
          clear hka he hy f0 f1 hrow
          go_wp2_with fail
          go_quiet (fail)
          have hbd : Below wr.heap.size wr (wr.drewN nq) := Drawn.below ⟨nq, rfl⟩
          have hA2 := Box.mk (hA.out.on hbd)
          clear hbd hA k0 k1 s0 s1 c0 c1 hcc
          go_wp2_with fail
          exact ⟨⟨j + 1, by omega, by go_num, rfl, hA2⟩, by simp [intOf]; omega⟩
      · obtain rfl : j = n := by omega
        have hkn : ¬ k < j := by omega
        have hA6 := Box.mk (hA.out.on (bel_alloc wr (.cells #[.string x1, .string x2] 39)))
        have hz6 := Box.mk (sig_new wr (x1, x2))
        obtain ⟨s0, s1⟩ := hsig.out wr hA.out.row.bel
        have hl1 : (sg ++ [(x1, x2)]).length = j + 1 := by rw [List.length_append, hn.out]; rfl
        go_wp2_with (at_builtin; refine wpList_pushG rfl (.tmp 42) (.tmp 44) rfl _ sg.length (sgC sg) rfl hA6.out.row.row (some ⟨wr.heap.size, 0, none⟩) 1 1 [(x1, x2)] rfl rfl hz6.out (by rw [hn.out]; omega) ?_)
        intro v' w7 hp
        have hA7 := Box.mk (hA6.out.push (m := 1) rfl hp)
        obtain ⟨d0, d1⟩ := hA7.out.cells
        have g1 := hA7.out.b6.free 1
        obtain ⟨a8, c8, e8⟩ := hA7.out.row.row.shape
        rw [hl1] at e8
        subst e8
        have hA8 := Box.mk (hA7.out.sto1 (.slice a8 (j + 1) c8))
        obtain ⟨j0, j1⟩ := hA8.out.cells
        have hB8 := Box.mk (mono_bel hB1.out hA8.out.row.bel (Nat.le_refl _))
        have hF := Box.mk (hR2.out hkn _ a8 c8 (by have h9 := hA8.out.row.sigs; exact h9))
        clear hp hA hA6 hA7 hA8 hz6 hl1 hsig hR1 hR2 c0 c1 s0 s1
        go_wp2_with fail
        refine hF.out.mono ?_
        clear hF d0 d1 j0 j1 g1
        rintro e w9 ⟨rfl, hb⟩
        have hB9 := Box.mk (mono_bel hB8.out hb (Nat.le_refl _))
        clear hb hB8
        go_wp2_with fail
        go_ret2
        exact ⟨rfl, hB9.out⟩
theorem adV_sz (z : ByteArray) (x : ByteArray × ByteArray) : ∃ F G, adV z x = .tuple #[.string F, .int .i64 G] ∧ (G = 0 → F.size ≤ z.size + 35217) := by
  cases hr : rdN z.data.toList with
  | none => exact ⟨_, _, adV_none hr x, fun h => by cases h⟩
  | some n =>
    obtain ⟨t, sg⟩ := n
    obtain ⟨hZ, h16, hTz⟩ := rd_ZS (s := z)
    rw [(rd_some hr).1] at hTz
    simp only at hTz
    rw [adV_some hr]
    simp only
    cases hg : gN (t, addL sg x) with
    | false => exact ⟨_, _, fmV_no hg, fun h => by cases h⟩
    | true => exact ⟨_, _, fmV_yes hg, fun _ => by have := byN_len hg; show (byN (t, addL sg x)).length ≤ _; omega⟩
theorem fmV_sz (t : ByteArray) (sg : List (ByteArray × ByteArray)) : ∃ F G, fmV (t, sg) = .tuple #[.string F, .int .i64 G] ∧ (G = 0 → F.size ≤ t.size + 35217) := by
  cases hg : gN (t, sg) with
  | false => exact ⟨_, _, fmV_no hg, fun h => by cases h⟩
  | true => exact ⟨_, _, fmV_yes hg, fun _ => by have := byN_len hg; show (byN (t, sg)).length ≤ _; omega⟩
set_option maxHeartbeats 6400000 in
set_option maxRecDepth 100000 in
theorem law_adds (s t : ByteArray) (a : Option Addr) (n c : Nat) (sg : List (ByteArray × ByteArray)) (a2 : Option Addr) (n2 c2 : Nat) (sg2 : List (ByteArray × ByteArray)) (w : World) (hL : NL w.heap.size w) (hs : s.size ≤ 268435456) (ht : t.size ≤ 268435456)
    (hv : SigsAt w (.slice a n c) sg) (hn : sg.length = n) (hm : n ≤ 1073741824) (hv2 : SigsAt w (.slice a2 n2 c2) sg2) (hn2 : sg2.length = n2) (hc2 : n2 ≤ c2) (hm2 : n2 ≤ 1073741824) (hz2 : ZS sg2) :
    Calls Tryd.prog 6 #[.string s, .agg #[.string t, .slice a n c], .slice a2 n2 c2] w fun e w' => e = .returned (.bool true) ∧ Below w.heap.size w w' := by
  have hA1 := Box.mk ((BK.start w 33).add [.string t, .slice a n c])
  have hTl := Box.mk (fun w' (h : Below w.heap.size w w') => tells_any w.heap.size w' (hL.here (Nat.le_refl _) h) h.size)
  have hF2 := Box.mk (fun w' (h : Below w.heap.size w w') => dformat_any t a n c sg w' (by omega) (hv.here h) hn hm)
  obtain ⟨F0, G0, hFG, hsz0⟩ := fmV_sz t sg
  rw [hFG] at hF2
  have hAd := Box.mk (fun (z x1 x2 : ByteArray) (w' : World) (h : Below w.heap.size w w') (h1 : z.size ≤ 536870912) (h2 : x1.size ≤ 1073741824) (h3 : x2.size ≤ 1073741824) => add_any z x1 x2 w.heap.size w' (hL.here (Nat.le_refl _) h) h.size h1 h2 h3)
  have hDd := Box.mk (fun (z x1 x2 : ByteArray) (w' : World) (h1 : z.size ≤ 536870912) => dadd_any z x1 x2 w' h1)
  obtain ⟨m, hmin, hmn, hm20⟩ : ∃ m : Nat, min (n2 : Int) 20 = (m : Int) ∧ m ≤ n2 ∧ m ≤ 20 := ⟨min n2 20, by omega, by omega, by omega⟩
  have hvB := Box.mk hv2
  have hnB := Box.mk hn2
  have hzB := Box.mk hz2
  have hmc : m ≤ c2 := by omega
  clear hL hv hn hm hFG hv2 hn2 hz2
  go_enter Tryd.func6, Tryd.ntmps6
  go_wp2_with fail
  have hF := hTl.out _ hA1.out.1
  refine hF.mono ?_
  clear hF hTl
  rintro e w2 ⟨rfl, hb⟩
  have hA2 := Box.mk (hA1.out.here hb)
  obtain ⟨a0, a1⟩ := hA2.out.get2 (List.mem_singleton.2 rfl)
  have hF := hF2.out w2 hA2.out.1
  clear hb hA1
  go_wp2_with fail
  refine hF.mono ?_
  clear hF a0 a1 hF2
  rintro e w3 ⟨rfl, hb⟩
  have hB3 := Box.mk (mono_bel hA2.out.1 hb (Nat.le_refl _))
  clear hb hA2
  obtain ⟨S, hS1, hS2⟩ : ∃ S : ByteArray, S = (if G0 = 0 then F0 else s) ∧ S.size ≤ 268470673 := by
    by_cases h : G0 = 0
    · exact ⟨F0, by rw [if_pos h], by have := hsz0 h; omega⟩
    · exact ⟨s, by rw [if_neg h], by omega⟩
  have hz35 : S.size ≤ 268470673 + 0 * 35217 := by omega
  by_cases h0 : G0 = 0
  · rw [if_pos h0] at hS1
    subst hS1
    subst h0
    clear hS2 hsz0
    go_wp2_with fail
    go_loopw [0, 31] (fun r q wr => ∃ (i : Nat) (z : ByteArray), i ≤ m ∧ q = .int .i64 (i : Int) ∧ r = .string z ∧ z.size ≤ 268470673 + i * 35217 ∧ Box (Below w.heap.size w wr)) (fun _ q _ => m - (intOf q).toNat)
    case atStart => exact ⟨0, S, by omega, rfl, rfl, hz35, hB3⟩
    case round =>
      clear hB3 hz35
      obtain ⟨i, z, hi, rfl, rfl, hz, hB⟩ := hrel
      by_cases hlt : i < m
      · have hig : i < sg2.length := by rw [hnB.out]; omega
        obtain ⟨b1, o1, rfl, k0, k1⟩ := (hvB.out.here hB.out).at i hig
        have hxs := hzB.out _ (mem_getD hig)
        obtain ⟨x, hx⟩ : ∃ x, sg2.getD i default = x := ⟨_, rfl⟩
        rw [hx] at k0 k1 hxs
        obtain ⟨x1, x2⟩ := x
        simp only at k0 k1 hxs
        obtain ⟨F, G, hFG, hsz⟩ := adV_sz z (x1, x2)
        obtain ⟨wx, hwx⟩ : ∃ wx, wr.alloc (.cells #[.string x1, .string x2] 39) = wx := ⟨_, rfl⟩
        have hBx : Box (Below w.heap.size w wx) := ⟨by rw [← hwx]; exact mono_bel hB.out (bel_alloc _ _) (Nat.le_refl _)⟩
        have hSx : Box (Pk.Blk wx wr.heap.size [.string x1, .string x2] 39) := ⟨by rw [← hwx]; exact Pk.Blk.new wr _ _⟩
        have hF1 := hAd.out z x1 x2 wx hBx.out (by omega) hxs.1 hxs.2
        have hF2 := Box.mk (fun w' => hDd.out z x1 x2 w' (by omega))
        rw [hFG] at hF1 hF2
        have q0 : wx.cell? ⟨wr.heap.size, 0, none⟩ = some (.string x1) := hSx.out.cell 0
        have q1 : wx.cell? ⟨wr.heap.size, 1, none⟩ = some (.string x2) := hSx.out.cell 1
        obtain ⟨bx, hbx⟩ : ∃ b, wr.heap.size = b := ⟨_, rfl⟩
        rw [hbx] at q0 q1 hSx
        have hii : (i : Int) < (m : Int) := by omega
        have hin : (i : Int) < (n2 : Int) := by omega
        clear hx hig hFG hxs hB
        go_wp2_with fail
        refine hF1.mono ?_
        clear hF1 q0 q1 hwx hbx k0 k1
        rintro e w5 ⟨rfl, hb⟩
        have hS5 := Box.mk ((hb.block _ (Pk.Blk.lt hSx.out)).trans hSx.out)
        have q0 : w5.cell? ⟨bx, 0, none⟩ = some (.string x1) := Pk.Blk.cell hS5.out 0
        have q1 : w5.cell? ⟨bx, 1, none⟩ = some (.string x2) := Pk.Blk.cell hS5.out 1
        have hB5 := Box.mk (mono_bel hBx.out hb (Nat.le_refl _))
        have hF := hF2.out w5
        clear hb hBx hSx hF2
        go_wp2_with fail
        refine hF.mono ?_
        clear hF q0 q1 hS5
        rintro e w6 ⟨rfl, hb⟩
        have hB6 := Box.mk (mono_bel hB5.out hb (Nat.le_refl _))
        clear hb hB5
        by_cases hG : G = 0
        · have hz' : F.size ≤ 268470673 + (i + 1) * 35217 := by have := hsz hG; omega
          subst hG
          clear hsz
          go_wp2_with fail
          exact ⟨⟨i + 1, F, by omega, by go_num, rfl, hz', hB6⟩, by simp [intOf]; omega⟩
        · have hz' : z.size ≤ 268470673 + (i + 1) * 35217 := by omega
          clear hsz
          go_wp2_with fail
          exact ⟨⟨i + 1, z, by omega, by go_num, rfl, hz', hB6⟩, by simp [intOf]; omega⟩
      · obtain rfl : i = m := by omega
        go_wp2_with fail
        go_ret
        exact ⟨rfl, hB.out⟩
  · rw [if_neg h0] at hS1
    subst hS1
    have hd1 : decide (G0 = 0) = false := by simpa using h0
    have hd2 : (G0 == 0) = false := by simpa using h0
    clear hS2 hsz0
    go_wp2_with fail
    go_loopw [0, 31] (fun r q wr => ∃ (i : Nat) (z : ByteArray), i ≤ m ∧ q = .int .i64 (i : Int) ∧ r = .string z ∧ z.size ≤ 268470673 + i * 35217 ∧ Box (Below w.heap.size w wr)) (fun _ q _ => m - (intOf q).toNat)
    case atStart => exact ⟨0, S, by omega, rfl, rfl, hz35, hB3⟩
    case round =>
      clear hB3 hz35
      obtain ⟨i, z, hi, rfl, rfl, hz, hB⟩ := hrel
      by_cases hlt : i < m
      · have hig : i < sg2.length := by rw [hnB.out]; omega
        obtain ⟨b1, o1, rfl, k0, k1⟩ := (hvB.out.here hB.out).at i hig
        have hxs := hzB.out _ (mem_getD hig)
        obtain ⟨x, hx⟩ : ∃ x, sg2.getD i default = x := ⟨_, rfl⟩
        rw [hx] at k0 k1 hxs
        obtain ⟨x1, x2⟩ := x
        simp only at k0 k1 hxs
        obtain ⟨F, G, hFG, hsz⟩ := adV_sz z (x1, x2)
        obtain ⟨wx, hwx⟩ : ∃ wx, wr.alloc (.cells #[.string x1, .string x2] 39) = wx := ⟨_, rfl⟩
        have hBx : Box (Below w.heap.size w wx) := ⟨by rw [← hwx]; exact mono_bel hB.out (bel_alloc _ _) (Nat.le_refl _)⟩
        have hSx : Box (Pk.Blk wx wr.heap.size [.string x1, .string x2] 39) := ⟨by rw [← hwx]; exact Pk.Blk.new wr _ _⟩
        have hF1 := hAd.out z x1 x2 wx hBx.out (by omega) hxs.1 hxs.2
        have hF2 := Box.mk (fun w' => hDd.out z x1 x2 w' (by omega))
        rw [hFG] at hF1 hF2
        have q0 : wx.cell? ⟨wr.heap.size, 0, none⟩ = some (.string x1) := hSx.out.cell 0
        have q1 : wx.cell? ⟨wr.heap.size, 1, none⟩ = some (.string x2) := hSx.out.cell 1
        obtain ⟨bx, hbx⟩ : ∃ b, wr.heap.size = b := ⟨_, rfl⟩
        rw [hbx] at q0 q1 hSx
        have hii : (i : Int) < (m : Int) := by omega
        have hin : (i : Int) < (n2 : Int) := by omega
        clear hx hig hFG hxs hB
        go_wp2_with fail
        refine hF1.mono ?_
        clear hF1 q0 q1 hwx hbx k0 k1
        rintro e w5 ⟨rfl, hb⟩
        have hS5 := Box.mk ((hb.block _ (Pk.Blk.lt hSx.out)).trans hSx.out)
        have q0 : w5.cell? ⟨bx, 0, none⟩ = some (.string x1) := Pk.Blk.cell hS5.out 0
        have q1 : w5.cell? ⟨bx, 1, none⟩ = some (.string x2) := Pk.Blk.cell hS5.out 1
        have hB5 := Box.mk (mono_bel hBx.out hb (Nat.le_refl _))
        have hF := hF2.out w5
        clear hb hBx hSx hF2
        go_wp2_with fail
        refine hF.mono ?_
        clear hF q0 q1 hS5
        rintro e w6 ⟨rfl, hb⟩
        have hB6 := Box.mk (mono_bel hB5.out hb (Nat.le_refl _))
        clear hb hB5
        by_cases hG : G = 0
        · have hz' : F.size ≤ 268470673 + (i + 1) * 35217 := by have := hsz hG; omega
          subst hG
          clear hsz
          go_wp2_with fail
          exact ⟨⟨i + 1, F, by omega, by go_num, rfl, hz', hB6⟩, by simp [intOf]; omega⟩
        · have hz' : z.size ≤ 268470673 + (i + 1) * 35217 := by omega
          clear hsz
          go_wp2_with fail
          exact ⟨⟨i + 1, z, by omega, by go_num, rfl, hz', hB6⟩, by simp [intOf]; omega⟩
      · obtain rfl : i = m := by omega
        go_wp2_with fail
        go_ret
        exact ⟨rfl, hB.out⟩
end Go.Proofs.YtdjppgmaokcgiaaDoor.Nt
