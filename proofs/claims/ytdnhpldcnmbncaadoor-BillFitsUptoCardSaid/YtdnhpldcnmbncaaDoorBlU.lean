/- A bill that came in, where its bulk is bounded. -/
import Derived.SliceStrings
import Derived.OpenShut
import Derived.ChangeMaps5
import Derived.Test.YtdnhpldcnmbncaaDoorTrA
namespace Go.Proofs.YtdnhpldcnmbncaaDoor.Bi
open Go Go.ChangeShapes Go.WideShapes Go.ChangeAt Go.RowKit Go.ChangeMaps Go.Proofs.YtdnhpldcnmbncaaDoor
set_option linter.all false

theorem bulk_mem {H : Type} : ∀ (l : List ByteArray) (s : ByteArray), s ∈ l → s.size ≤ Rows.uptoBulkAll (H := H) (strs l)
  | [], s, h => by cases h
  | x :: l, s, h => by
    have h3 : (strs (x :: l) : List (DataW H)) = .lit (.string x.data.toList) :: strs l := rfl
    rw [h3, Rows.uptoBulkAll, Rows.uptoBulk, data_len]
    rcases List.mem_cons.1 h with rfl | h
    · omega
    · have := bulk_mem (H := H) l s h; omega
set_option maxRecDepth 100000 in
theorem texts_trod {H : Type} {enc : TypeId × Value → H} {W : World} {fuel : Nat} {v : Value} {x : DataW H × List MemPlace} (hf : DataW.trod enc Tryd.prog W 0 (fun _ => true) true fuel 23 [v] = some x) :
    ∃ (a : Option Addr) (ps : List ByteArray) (c : Nat), v = .slice a ps.length c ∧ PA W a ps.length c ps ∧ ∀ s ∈ ps, s.size ≤ Rows.uptoBulk x.1 := by
  rcases open_strings Tryd.underlying23 Tryd.underlying9 (by kernel_rfl) hf with ⟨hcs, rfl⟩ | ⟨a, len, cap, ss, hcs, _, hl, hm, hlen, rfl, hcell, hsz⟩
  · simp at hcs
    subst hcs
    exact ⟨none, [], 0, rfl, ⟨rfl, Nat.le_refl _, Nat.zero_le _, fun h => absurd h (Nat.lt_irrefl 0)⟩, fun s hs => by cases hs⟩
  · simp at hcs
    subst hcs
    simp only [if_true] at hlen
    unfold maxLen at hm
    have hpl : (ss.take len).length = len := by rw [List.length_take]; omega
    refine ⟨some a, ss.take len, cap, by rw [hpl], ⟨rfl, by omega, by omega, fun h0 => ?_⟩, fun s hs => ?_⟩
    · rw [hpl] at h0
      have hc0 := hcell 0 (by omega)
      obtain ⟨blk, off, spot⟩ := a
      have hspot : spot = none := by simpa [Addr.add] using World.cell?_spot hc0
      subst hspot
      refine ⟨blk, off, rfl, by simpa [Addr.add] using World.block_lt_of_cell? W _ hc0, fun i hi => ?_⟩
      rw [hpl] at hi
      have hci := hcell i (by omega)
      have hadd : (⟨blk, off, none⟩ : Addr).add i = ⟨blk, off + i, none⟩ := by
        unfold Addr.add
        split
        · next h => subst h; rfl
        · rfl
      rw [hadd] at hci
      rw [hci]
      simp [List.getD, hi]
    · have := bulk_mem (H := H) _ s hs
      simp only [Rows.uptoBulk]
      omega
set_option maxRecDepth 100000 in
theorem bill_bulk {H : Type} {enc : TypeId × Value → H} {W : World} {base : Nat} {v : Value} {d : DataW H} {p : List MemPlace}
    (hv : Value.okWide Tryd.prog W .any base 25 v) (h : DataW.Trod enc Tryd.prog W 0 (fun _ => true) true 25 v d p) :
    ∃ (V S C : Int) (hh ht : ByteArray) (a : Option Addr) (ps : List ByteArray) (c : Nat), v = .agg #[.int .i64 V, .int .i64 S, .int .i64 C, .string hh, .string ht, .slice a ps.length c] ∧ PA W a ps.length c ps ∧ (∀ s ∈ ps, s.size ≤ Rows.uptoBulk d) := by
  obtain ⟨cs, rfl, hcs⟩ := okWide_struct Tryd.underlying25 hv
  obtain ⟨fuel, hf⟩ := h
  obtain ⟨xs, m, _, hx, hl, hn, hF⟩ := DataW.trod_struct Tryd.underlying25 hf
  rw [show Tryd.prog.cellsOf 25 = 6 by kernel_rfl] at hl
  obtain ⟨l, hle⟩ : ∃ l, (Value.agg cs).cells.toList = l := ⟨_, rfl⟩
  rw [hle] at hl hF
  match l, hl, xs, hn with
  | [c0, c1, c2, c3, c4, c5], _, [x0, x1, x2, x3, x4, x5], _ =>
    have g0 : DataW.trod enc Tryd.prog W 0 (fun _ => true) true m 3 (([c0, c1, c2, c3, c4, c5].drop 0).take (Tryd.prog.cellsOf 3)) = some x0 := hF 0 _ rfl
    have g1 : DataW.trod enc Tryd.prog W 0 (fun _ => true) true m 3 (([c0, c1, c2, c3, c4, c5].drop 1).take (Tryd.prog.cellsOf 3)) = some x1 := hF 1 _ rfl
    have g2 : DataW.trod enc Tryd.prog W 0 (fun _ => true) true m 3 (([c0, c1, c2, c3, c4, c5].drop 2).take (Tryd.prog.cellsOf 3)) = some x2 := hF 2 _ rfl
    have g3 : DataW.trod enc Tryd.prog W 0 (fun _ => true) true m 9 (([c0, c1, c2, c3, c4, c5].drop 3).take (Tryd.prog.cellsOf 9)) = some x3 := hF 3 _ rfl
    have g4 : DataW.trod enc Tryd.prog W 0 (fun _ => true) true m 9 (([c0, c1, c2, c3, c4, c5].drop 4).take (Tryd.prog.cellsOf 9)) = some x4 := hF 4 _ rfl
    have g5 : DataW.trod enc Tryd.prog W 0 (fun _ => true) true m 23 (([c0, c1, c2, c3, c4, c5].drop 5).take (Tryd.prog.cellsOf 23)) = some x5 := hF 5 _ rfl
    have z1 : Tryd.prog.cellsOf 23 = 1 := by kernel_rfl
    have z2 : Tryd.prog.cellsOf 3 = 1 := by kernel_rfl
    have z3 : Tryd.prog.cellsOf 9 = 1 := by kernel_rfl
    rw [z1] at g5
    rw [z2] at g0 g1 g2
    rw [z3] at g3 g4
    simp only [List.drop_zero, List.take_succ_cons, List.take_zero, List.drop_succ_cons] at g0 g1 g2 g3 g4 g5
    obtain ⟨V, e0, y0, w0⟩ := DataW.trod_int Tryd.underlying3 g0
    obtain ⟨S, e1, y1, w1⟩ := DataW.trod_int Tryd.underlying3 g1
    obtain ⟨C, e2, y2, w2⟩ := DataW.trod_int Tryd.underlying3 g2
    obtain ⟨hh, e3, y3, w3⟩ := DataW.trod_string Tryd.underlying9 g3
    obtain ⟨ht, e4, y4, w4⟩ := DataW.trod_string Tryd.underlying9 g4
    obtain ⟨a, ps, c, e5, k5, s5⟩ := texts_trod g5
    have hcv : cs = #[c0, c1, c2, c3, c4, c5] := Array.ext' (by simpa [Value.cells] using hle)
    subst hcv
    simp at e0 e1 e2 e3 e4
    subst e0 e1 e2 e3 e4 e5
    have hde : d = .agg ([x0, x1, x2, x3, x4, x5].map (·.1)) := congrArg Prod.fst hx
    have hb5 : Rows.uptoBulk x5.1 ≤ Rows.uptoBulk d := by
      rw [hde]
      simp only [List.map_cons, List.map_nil, Rows.uptoBulk, Rows.uptoBulkAll]
      omega
    exact ⟨V, S, C, hh, ht, a, ps, c, rfl, k5, fun s hs => Nat.le_trans (s5 s hs) hb5⟩
end Go.Proofs.YtdnhpldcnmbncaaDoor.Bi
