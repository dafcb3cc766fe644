/- A checkpoint that came in. -/
import Derived.Test.YtdjppgmaokcgiaaDoorNtV
namespace Go.Proofs.YtdjppgmaokcgiaaDoor.Nt
open Go Go.ChangeShapes Go.WideShapes Go.ChangeAt Go.RowKit Go.ChangeMaps

set_option maxRecDepth 100000 in
theorem ck_open {H : Type} {enc : TypeId × Value → H} {W : World} {base : Nat} {v : Value} {d : DataW H} {p : List MemPlace}
    (hv : Value.okWide Tryd.prog W .any base 23 v) (h : DataW.Trod enc Tryd.prog W 0 (fun _ => true) true 23 v d p) :
    ∃ c : Ck, v = ckV c ∧ c.o.size ≤ Rows.uptoBulk d ∧ c.r.size ≤ Rows.uptoBulk d := by
  obtain ⟨cs, rfl, hcs⟩ := okWide_struct Tryd.underlying23 hv
  obtain ⟨fuel, hf⟩ := h
  obtain ⟨xs, m, _, hx, hl, hn, hF⟩ := DataW.trod_struct Tryd.underlying23 hf
  rw [show Tryd.prog.cellsOf 23 = 3 by kernel_rfl] at hl
  have hc : ∃ c : Ck, (Value.agg cs).cells.toList = [.string c.o, .int .i64 c.n, .string c.r] ∧ c.o.size ≤ Rows.uptoBulk d ∧ c.r.size ≤ Rows.uptoBulk d := by
    generalize (Value.agg cs).cells.toList = ds at *
    match ds, hl, xs, hn with
    | [c0, c1, c2], _, [x0, x1, x2], _ =>
      have g0 : DataW.trod enc Tryd.prog W 0 (fun _ => true) true m 9 (([c0, c1, c2].drop 0).take (Tryd.prog.cellsOf 9)) = some x0 := hF 0 _ rfl
      have g1 : DataW.trod enc Tryd.prog W 0 (fun _ => true) true m 3 (([c0, c1, c2].drop 1).take (Tryd.prog.cellsOf 3)) = some x1 := hF 1 _ rfl
      have g2 : DataW.trod enc Tryd.prog W 0 (fun _ => true) true m 9 (([c0, c1, c2].drop 2).take (Tryd.prog.cellsOf 9)) = some x2 := hF 2 _ rfl
      have z3 : Tryd.prog.cellsOf 3 = 1 := by kernel_rfl
      have z9 : Tryd.prog.cellsOf 9 = 1 := by kernel_rfl
      rw [z9] at g0 g2
      rw [z3] at g1
      obtain ⟨a, e0, y0, w0⟩ := DataW.trod_string Tryd.underlying9 g0
      obtain ⟨b, e1, y1, w1⟩ := DataW.trod_int Tryd.underlying3 g1
      obtain ⟨c, e2, y2, w2⟩ := DataW.trod_string Tryd.underlying9 g2
      simp [List.take, List.drop] at e0 e1 e2
      subst e0 e1 e2
      have hd : d = .agg [x0.1, x1.1, x2.1] := congrArg Prod.fst hx
      have k0 : x0.1 = .lit (.string a.data.toList) := by rw [y0]
      have k2 : x2.1 = .lit (.string c.data.toList) := by rw [y2]
      refine ⟨⟨a, b, c⟩, rfl, ?_, ?_⟩
      · rw [hd, k0]; simp only [Rows.uptoBulk, Rows.uptoBulkAll, data_len]; omega
      · rw [hd, k2]; simp only [Rows.uptoBulk, Rows.uptoBulkAll, data_len]; omega
  obtain ⟨c, hc, h1, h2⟩ := hc
  refine ⟨c, ?_, h1, h2⟩
  unfold ckV
  congr 1
  apply Array.ext'
  simpa [Value.cells] using hc
end Go.Proofs.YtdjppgmaokcgiaaDoor.Nt
