/- meta: a document that came in, where its bulk is bounded. -/
import Derived.Test.YtiblkfkeifnpaaaGreatDoorZnd
set_option linter.all false
namespace Go.Proofs.YtiblkfkeifnpaaaGreatDoor.Me
open Go Go.ChangeShapes Go.WideShapes Go.ChangeAt Go.RowKit Go.ChangeMaps Go.Proofs.YtiblkfkeifnpaaaGreatDoor Go.Proofs.YtiblkfkeifnpaaaGreatDoor.Nt
theorem bulk_mem {H : Type} : ∀ (l : List (DataW H)) (x : DataW H), x ∈ l → Rows.uptoBulk x ≤ Rows.uptoBulkAll l
  | [], x, h => by cases h
  | y :: l, x, h => by
    rw [Rows.uptoBulkAll]
    rcases List.mem_cons.1 h with rfl | h
    · omega
    · have := bulk_mem l x h; omega
set_option maxRecDepth 100000 in
set_option maxHeartbeats 1600000 in
theorem doc_bulk {H : Type} {enc : TypeId × Value → H} {W : World} {base : Nat} {v : Value} {d : DataW H} {p : List MemPlace}
    (hv : Value.okWide Tryz.prog W .any base 30 v) (h : DataW.Trod enc Tryz.prog W 0 (fun _ => true) true 30 v d p)
    (hz : Rows.uptoBulk d ≤ 140737488355328) :
    ∃ (D : Dc) (z : Sl), v = docV D z ∧ DcAt W z D ∧ DcOk D := by
  obtain ⟨cs, rfl, hcs⟩ := okWide_struct Tryz.underlying30 hv
  obtain ⟨fuel, hf⟩ := h
  obtain ⟨xs, m, _, hx, hl, hn, hF⟩ := DataW.trod_struct Tryz.underlying30 hf
  rw [show Tryz.prog.cellsOf 30 = 21 by kernel_rfl] at hl
  obtain ⟨l, hle⟩ : ∃ l, (Value.agg cs).cells.toList = l := ⟨_, rfl⟩
  rw [hle] at hl hF
  have hcv : cs = l.toArray := Array.ext' (by simpa [Value.cells] using hle)
  subst hcv
  clear hle hf hcs hv
  match l, hl, xs, hn with
  | [c0, c1, c2, c3, c4, c5, c6, c7, c8, c9, c10, c11, c12, c13, c14, c15, c16, c17, c18, c19, c20], _, [x0, x1, x2, x3, x4, x5, x6, x7, x8, x9, x10], _ =>
    have zi : Tryz.prog.cellsOf 3 = 1 := by kernel_rfl
    have zs : Tryz.prog.cellsOf 9 = 1 := by kernel_rfl
    have zt : Tryz.prog.cellsOf 26 = 1 := by kernel_rfl
    have ze : Tryz.prog.cellsOf 24 = 2 := by kernel_rfl
    have za : Tryz.prog.cellsOf 25 = 8 := by kernel_rfl
    have zc : Tryz.prog.cellsOf 28 = 3 := by kernel_rfl
    have g0 : DataW.trod enc Tryz.prog W 0 (fun _ => true) true m 3 [c0] = some x0 := by have h : DataW.trod enc Tryz.prog W 0 (fun _ => true) true m 3 (([c0, c1, c2, c3, c4, c5, c6, c7, c8, c9, c10, c11, c12, c13, c14, c15, c16, c17, c18, c19, c20].drop 0).take (Tryz.prog.cellsOf 3)) = some x0 := hF 0 _ rfl; rw [zi] at h; exact h
    have g1 : DataW.trod enc Tryz.prog W 0 (fun _ => true) true m 3 [c1] = some x1 := by have h : DataW.trod enc Tryz.prog W 0 (fun _ => true) true m 3 (([c0, c1, c2, c3, c4, c5, c6, c7, c8, c9, c10, c11, c12, c13, c14, c15, c16, c17, c18, c19, c20].drop 1).take (Tryz.prog.cellsOf 3)) = some x1 := hF 1 _ rfl; rw [zi] at h; exact h
    have g2 : DataW.trod enc Tryz.prog W 0 (fun _ => true) true m 3 [c2] = some x2 := by have h : DataW.trod enc Tryz.prog W 0 (fun _ => true) true m 3 (([c0, c1, c2, c3, c4, c5, c6, c7, c8, c9, c10, c11, c12, c13, c14, c15, c16, c17, c18, c19, c20].drop 2).take (Tryz.prog.cellsOf 3)) = some x2 := hF 2 _ rfl; rw [zi] at h; exact h
    have g3 : DataW.trod enc Tryz.prog W 0 (fun _ => true) true m 25 [c3, c4, c5, c6, c7, c8, c9, c10] = some x3 := by have h : DataW.trod enc Tryz.prog W 0 (fun _ => true) true m 25 (([c0, c1, c2, c3, c4, c5, c6, c7, c8, c9, c10, c11, c12, c13, c14, c15, c16, c17, c18, c19, c20].drop 3).take (Tryz.prog.cellsOf 25)) = some x3 := hF 3 _ rfl; rw [za] at h; exact h
    have g4 : DataW.trod enc Tryz.prog W 0 (fun _ => true) true m 24 [c11, c12] = some x4 := by have h : DataW.trod enc Tryz.prog W 0 (fun _ => true) true m 24 (([c0, c1, c2, c3, c4, c5, c6, c7, c8, c9, c10, c11, c12, c13, c14, c15, c16, c17, c18, c19, c20].drop 11).take (Tryz.prog.cellsOf 24)) = some x4 := hF 4 _ rfl; rw [ze] at h; exact h
    have g5 : DataW.trod enc Tryz.prog W 0 (fun _ => true) true m 9 [c13] = some x5 := by have h : DataW.trod enc Tryz.prog W 0 (fun _ => true) true m 9 (([c0, c1, c2, c3, c4, c5, c6, c7, c8, c9, c10, c11, c12, c13, c14, c15, c16, c17, c18, c19, c20].drop 13).take (Tryz.prog.cellsOf 9)) = some x5 := hF 5 _ rfl; rw [zs] at h; exact h
    have g6 : DataW.trod enc Tryz.prog W 0 (fun _ => true) true m 9 [c14] = some x6 := by have h : DataW.trod enc Tryz.prog W 0 (fun _ => true) true m 9 (([c0, c1, c2, c3, c4, c5, c6, c7, c8, c9, c10, c11, c12, c13, c14, c15, c16, c17, c18, c19, c20].drop 14).take (Tryz.prog.cellsOf 9)) = some x6 := hF 6 _ rfl; rw [zs] at h; exact h
    have g7 : DataW.trod enc Tryz.prog W 0 (fun _ => true) true m 26 [c15] = some x7 := by have h : DataW.trod enc Tryz.prog W 0 (fun _ => true) true m 26 (([c0, c1, c2, c3, c4, c5, c6, c7, c8, c9, c10, c11, c12, c13, c14, c15, c16, c17, c18, c19, c20].drop 15).take (Tryz.prog.cellsOf 26)) = some x7 := hF 7 _ rfl; rw [zt] at h; exact h
    have g8 : DataW.trod enc Tryz.prog W 0 (fun _ => true) true m 28 [c16, c17, c18] = some x8 := by have h : DataW.trod enc Tryz.prog W 0 (fun _ => true) true m 28 (([c0, c1, c2, c3, c4, c5, c6, c7, c8, c9, c10, c11, c12, c13, c14, c15, c16, c17, c18, c19, c20].drop 16).take (Tryz.prog.cellsOf 28)) = some x8 := hF 8 _ rfl; rw [zc] at h; exact h
    have g9 : DataW.trod enc Tryz.prog W 0 (fun _ => true) true m 3 [c19] = some x9 := by have h : DataW.trod enc Tryz.prog W 0 (fun _ => true) true m 3 (([c0, c1, c2, c3, c4, c5, c6, c7, c8, c9, c10, c11, c12, c13, c14, c15, c16, c17, c18, c19, c20].drop 19).take (Tryz.prog.cellsOf 3)) = some x9 := hF 9 _ rfl; rw [zi] at h; exact h
    have g10 : DataW.trod enc Tryz.prog W 0 (fun _ => true) true m 9 [c20] = some x10 := by have h : DataW.trod enc Tryz.prog W 0 (fun _ => true) true m 9 (([c0, c1, c2, c3, c4, c5, c6, c7, c8, c9, c10, c11, c12, c13, c14, c15, c16, c17, c18, c19, c20].drop 20).take (Tryz.prog.cellsOf 9)) = some x10 := hF 10 _ rfl; rw [zs] at h; exact h
    clear hF
    obtain ⟨n0, e0, _, _⟩ := DataW.trod_int Tryz.underlying3 g0
    obtain ⟨n1, e1, _, _⟩ := DataW.trod_int Tryz.underlying3 g1
    obtain ⟨n2, e2, _, _⟩ := DataW.trod_int Tryz.underlying3 g2
    obtain ⟨n9, e9, _, _⟩ := DataW.trod_int Tryz.underlying3 g9
    obtain ⟨s5, e5, _, _⟩ := DataW.trod_string Tryz.underlying9 g5
    obtain ⟨s6, e6, y6, _⟩ := DataW.trod_string Tryz.underlying9 g6
    obtain ⟨s10, e10, _, _⟩ := DataW.trod_string Tryz.underlying9 g10
    simp at e0 e1 e2 e9 e5 e6 e10
    subst e0 e1 e2 e9 e5 e6 e10
    obtain ⟨ys, m2, _, hy, hyl, hyn, hG⟩ := DataW.trod_array Tryz.underlying25 g3
    rw [ze] at hG
    match ys, hyn with
    | [y0, y1, y2, y3], _ =>
      have k0 : DataW.trod enc Tryz.prog W 0 (fun _ => true) true m2 24 [c3, c4] = some y0 := hG 0 (by decide)
      have k1 : DataW.trod enc Tryz.prog W 0 (fun _ => true) true m2 24 [c5, c6] = some y1 := hG 1 (by decide)
      have k2 : DataW.trod enc Tryz.prog W 0 (fun _ => true) true m2 24 [c7, c8] = some y2 := hG 2 (by decide)
      have k3 : DataW.trod enc Tryz.prog W 0 (fun _ => true) true m2 24 [c9, c10] = some y3 := hG 3 (by decide)
      obtain ⟨a0, p0, q0, i0, rfl, rfl, u0, l0⟩ := set_trod k0
      obtain ⟨a1, p1, q1, i1, rfl, rfl, u1, l1⟩ := set_trod k1
      obtain ⟨a2, p2, q2, i2, rfl, rfl, u2, l2⟩ := set_trod k2
      obtain ⟨a3, p3, q3, i3, rfl, rfl, u3, l3⟩ := set_trod k3
      obtain ⟨a4, p4, q4, i4, rfl, rfl, u4, l4⟩ := set_trod g4
      obtain ⟨a5, ts5, q5, rfl, u5, l5⟩ := tgs_trod g7
      clear hG k0 k1 k2 k3 g0 g1 g2 g3 g4 g5 g6 g7 g9 g10
      obtain ⟨vs, m3, _, hw, hwl, hwn, hK⟩ := DataW.trod_struct Tryz.underlying28 g8
      match vs, hwn with
      | [w0, w1, w2], _ =>
        have r0 : DataW.trod enc Tryz.prog W 0 (fun _ => true) true m3 9 [c16] = some w0 := by have h : DataW.trod enc Tryz.prog W 0 (fun _ => true) true m3 9 (([c16, c17, c18].drop 0).take (Tryz.prog.cellsOf 9)) = some w0 := hK 0 _ rfl; rw [zs] at h; exact h
        have r1 : DataW.trod enc Tryz.prog W 0 (fun _ => true) true m3 3 [c17] = some w1 := by have h : DataW.trod enc Tryz.prog W 0 (fun _ => true) true m3 3 (([c16, c17, c18].drop 1).take (Tryz.prog.cellsOf 3)) = some w1 := hK 1 _ rfl; rw [zi] at h; exact h
        have r2 : DataW.trod enc Tryz.prog W 0 (fun _ => true) true m3 9 [c18] = some w2 := by have h : DataW.trod enc Tryz.prog W 0 (fun _ => true) true m3 9 (([c16, c17, c18].drop 2).take (Tryz.prog.cellsOf 9)) = some w2 := hK 2 _ rfl; rw [zs] at h; exact h
        obtain ⟨t0, f0, v0, _⟩ := DataW.trod_string Tryz.underlying9 r0
        obtain ⟨t1, f1, _, _⟩ := DataW.trod_int Tryz.underlying3 r1
        obtain ⟨t2, f2, v2, _⟩ := DataW.trod_string Tryz.underlying9 r2
        simp at f0 f1 f2
        subst f0 f1 f2
        have hde : d = .agg [x0.1, x1.1, x2.1, x3.1, x4.1, x5.1, x6.1, x7.1, x8.1, x9.1, x10.1] := congrArg Prod.fst hx
        have h6 : x6.1 = .lit (.string s6.data.toList) := by rw [y6]
        have h8 : x8.1 = .agg [w0.1, w1.1, w2.1] := congrArg Prod.fst hw
        have hw0 : w0.1 = .lit (.string t0.data.toList) := by rw [v0]
        have hw2 : w2.1 = .lit (.string t2.data.toList) := by rw [v2]
        rw [hde, Rows.uptoBulk] at hz
        have e6 := bulk_mem [x0.1, x1.1, x2.1, x3.1, x4.1, x5.1, x6.1, x7.1, x8.1, x9.1, x10.1] x6.1 (by simp)
        have e8 := bulk_mem [x0.1, x1.1, x2.1, x3.1, x4.1, x5.1, x6.1, x7.1, x8.1, x9.1, x10.1] x8.1 (by simp)
        have f0 := bulk_mem [w0.1, w1.1, w2.1] w0.1 (by simp)
        have f2 := bulk_mem [w0.1, w1.1, w2.1] w2.1 (by simp)
        have q6 : Rows.uptoBulk x6.1 = s6.data.toList.length + 1 := by rw [h6, Rows.uptoBulk]
        have q8 : Rows.uptoBulk x8.1 = Rows.uptoBulkAll [w0.1, w1.1, w2.1] + 1 := by rw [h8, Rows.uptoBulk]
        have qa : Rows.uptoBulk w0.1 = t0.data.toList.length + 1 := by rw [hw0, Rows.uptoBulk]
        have qb : Rows.uptoBulk w2.1 = t2.data.toList.length + 1 := by rw [hw2, Rows.uptoBulk]
        have b6 : s6.data.toList.length ≤ 140737488355328 := by omega
        have b80 : t0.data.toList.length ≤ 140737488355328 := by omega
        have b82 : t2.data.toList.length ≤ 140737488355328 := by omega
        rw [data_len] at b6 b80 b82
        exact ⟨⟨n0, n1, n2, ⟨(p0, i0), (p1, i1), (p2, i2), (p3, i3), (p4, i4), s5, s6, ts5, ⟨t0, t1, t2⟩, n9, s10⟩⟩, ⟨(a0, q0), (a1, q1), (a2, q2), (a3, q3), (a4, q4), (a5, q5)⟩, rfl, ⟨u0, u1, u2, u3, u4, u5⟩, ⟨l0, l1, l2, l3, l4, l5, b6, b80, b82⟩⟩
end Go.Proofs.YtiblkfkeifnpaaaGreatDoor.Me
