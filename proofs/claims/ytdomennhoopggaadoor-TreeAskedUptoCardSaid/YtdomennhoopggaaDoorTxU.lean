/- Texts that came in, where their bulk is bounded: a slice of texts, a proof (law 8). -/
import Derived.SliceStrings
import Derived.OpenShut
import Derived.ChangeMaps5
import Derived.Test.YtdomennhoopggaaDoorMTe
namespace Go.Proofs.YtdomennhoopggaaDoor
open Go Go.ChangeShapes Go.WideShapes Go.ChangeAt Go.RowKit Go.ChangeMaps

theorem bulk_mem {H : Type} : ∀ (l : List ByteArray) (s : ByteArray), s ∈ l → s.size ≤ Rows.uptoBulkAll (H := H) (strs l)
  | [], s, h => by cases h
  | x :: l, s, h => by
    have h3 : (strs (x :: l) : List (DataW H)) = .lit (.string x.data.toList) :: strs l := rfl
    rw [h3, Rows.uptoBulkAll, Rows.uptoBulk, data_len]
    rcases List.mem_cons.1 h with rfl | h
    · omega
    · have := bulk_mem (H := H) l s h; omega
theorem texts_trod {H : Type} {enc : TypeId × Value → H} {W : World} {fuel : Nat} {v : Value} {x : DataW H × List MemPlace} (hf : DataW.trod enc Tryd.prog W 0 (fun _ => true) true fuel 22 [v] = some x) :
    ∃ (a : Option Addr) (ps : List ByteArray) (c : Nat), v = .slice a ps.length c ∧ PA W a ps.length c ps ∧ ∀ s ∈ ps, s.size ≤ Rows.uptoBulk x.1 := by
  rcases open_strings Tryd.underlying22 Tryd.underlying9 (by kernel_rfl) hf with ⟨hcs, rfl⟩ | ⟨a, len, cap, ss, hcs, _, hl, hm, hlen, rfl, hcell, hsz⟩
  · simp at hcs
    subst hcs
    exact ⟨none, [], 0, rfl, pa_none _ _, fun s hs => by cases hs⟩
  · simp at hcs
    subst hcs
    simp only [if_true] at hlen
    unfold maxLen at hm
    have hpl : (ss.take len).length = len := by rw [List.length_take]; omega
    refine ⟨some a, ss.take len, cap, by rw [hpl], ⟨rfl, by omega, by omega, fun h0 => ?_⟩, fun s hs => ?_⟩
    · rw [hpl] at h0
      have hc0 := hcell 0 (by omega)
      obtain ⟨blk, off, spot⟩ := a
      have hspot : spot = none := by simpa [Addr.add] using World.cell?_spot hc0
      subst hspot
      refine ⟨blk, off, rfl, by simpa [Addr.add] using World.block_lt_of_cell? W _ hc0, fun i hi => ?_⟩
      rw [hpl] at hi
      have hci := hcell i (by omega)
      have hadd : (⟨blk, off, none⟩ : Addr).add i = ⟨blk, off + i, none⟩ := by
        unfold Addr.add
        split
        · next h => subst h; rfl
        · rfl
      rw [hadd] at hci
      rw [hci]
      simp [List.getD, hi]
    · have := bulk_mem (H := H) _ s hs
      simp only [Rows.uptoBulk]
      omega
theorem texts_bulk {H : Type} {enc : TypeId × Value → H} {W : World} {base : Nat} {v : Value} {d : DataW H} {p : List MemPlace}
    (hv : Value.okWide Tryd.prog W .any base 22 v) (h : DataW.Trod enc Tryd.prog W 0 (fun _ => true) true 22 v d p) :
    ∃ (a : Option Addr) (ps : List ByteArray) (c : Nat), v = .slice a ps.length c ∧ PA W a ps.length c ps ∧ ∀ s ∈ ps, s.size ≤ Rows.uptoBulk d := by
  obtain ⟨a0, l0, c0, rfl⟩ := okWide_slice Tryd.underlying22 hv
  obtain ⟨fuel, hf⟩ := h
  exact texts_trod hf
set_option maxRecDepth 100000 in
theorem proof_bulk {H : Type} {enc : TypeId × Value → H} {W : World} {base : Nat} {v : Value} {d : DataW H} {p : List MemPlace}
    (hv : Value.okWide Tryd.prog W .any base 35 v) (h : DataW.Trod enc Tryd.prog W 0 (fun _ => true) true 35 v d p) :
    ∃ (M N : Int) (a : Option Addr) (ps : List ByteArray) (c : Nat) (old root : ByteArray), v = .agg #[.int .i64 M, .int .i64 N, .slice a ps.length c, .string old, .string root] ∧ PA W a ps.length c ps ∧ (∀ s ∈ ps, s.size ≤ Rows.uptoBulk d) ∧ old.size ≤ Rows.uptoBulk d ∧ (Lit.int .i64 N).wf = true := by
  obtain ⟨cs, rfl, hcs⟩ := okWide_struct Tryd.underlying35 hv
  obtain ⟨fuel, hf⟩ := h
  obtain ⟨xs, m, _, hx, hl, hn, hF⟩ := DataW.trod_struct Tryd.underlying35 hf
  rw [show Tryd.prog.cellsOf 35 = 5 by kernel_rfl] at hl
  obtain ⟨l, hle⟩ : ∃ l, (Value.agg cs).cells.toList = l := ⟨_, rfl⟩
  rw [hle] at hl hF
  match l, hl, xs, hn with
  | [c0, c1, c2, c3, c4], _, [x0, x1, x2, x3, x4], _ =>
    have g0 : DataW.trod enc Tryd.prog W 0 (fun _ => true) true m 3 (([c0, c1, c2, c3, c4].drop 0).take (Tryd.prog.cellsOf 3)) = some x0 := hF 0 _ rfl
    have g1 : DataW.trod enc Tryd.prog W 0 (fun _ => true) true m 3 (([c0, c1, c2, c3, c4].drop 1).take (Tryd.prog.cellsOf 3)) = some x1 := hF 1 _ rfl
    have g2 : DataW.trod enc Tryd.prog W 0 (fun _ => true) true m 22 (([c0, c1, c2, c3, c4].drop 2).take (Tryd.prog.cellsOf 22)) = some x2 := hF 2 _ rfl
    have g3 : DataW.trod enc Tryd.prog W 0 (fun _ => true) true m 9 (([c0, c1, c2, c3, c4].drop 3).take (Tryd.prog.cellsOf 9)) = some x3 := hF 3 _ rfl
    have g4 : DataW.trod enc Tryd.prog W 0 (fun _ => true) true m 9 (([c0, c1, c2, c3, c4].drop 4).take (Tryd.prog.cellsOf 9)) = some x4 := hF 4 _ rfl
    have z1 : Tryd.prog.cellsOf 22 = 1 := by kernel_rfl
    have z2 : Tryd.prog.cellsOf 3 = 1 := by kernel_rfl
    have z3 : Tryd.prog.cellsOf 9 = 1 := by kernel_rfl
    rw [z1] at g2
    rw [z2] at g0 g1
    rw [z3] at g3 g4
    simp only [List.drop_zero, List.take_succ_cons, List.take_zero, List.drop_succ_cons] at g0 g1 g2 g3 g4
    obtain ⟨M, e0, y0, w0⟩ := DataW.trod_int Tryd.underlying3 g0
    obtain ⟨N, e1, y1, w1⟩ := DataW.trod_int Tryd.underlying3 g1
    obtain ⟨a, ps, c, e2, k2, s2⟩ := texts_trod g2
    obtain ⟨old, e3, y3, w3⟩ := DataW.trod_string Tryd.underlying9 g3
    obtain ⟨root, e4, y4, w4⟩ := DataW.trod_string Tryd.underlying9 g4
    have hcv : cs = #[c0, c1, c2, c3, c4] := Array.ext' (by simpa [Value.cells] using hle)
    subst hcv
    simp at e0 e1 e3 e4
    subst e0 e1 e2 e3 e4
    have hde : d = .agg ([x0, x1, x2, x3, x4].map (·.1)) := congrArg Prod.fst hx
    have hb2 : Rows.uptoBulk x2.1 ≤ Rows.uptoBulk d := by
      rw [hde]
      simp only [List.map_cons, List.map_nil, Rows.uptoBulk, Rows.uptoBulkAll]
      omega
    have hb3 : old.size ≤ Rows.uptoBulk d := by
      have h3 : x3.1 = .lit (.string old.data.toList) := congrArg Prod.fst y3
      rw [hde]
      simp only [List.map_cons, List.map_nil, Rows.uptoBulk, Rows.uptoBulkAll, h3, data_len]
      omega
    exact ⟨M, N, a, ps, c, old, root, rfl, k2, fun s hs => Nat.le_trans (s2 s hs) hb2, hb3, w1⟩
end Go.Proofs.YtdomennhoopggaaDoor
