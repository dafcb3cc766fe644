/- meta: a document that came in. | What the meta rows' list of four variables gives: the powers of ten, SHA-256's round words; a world for the witnesses. -/
import Derived.LaidSub
import Derived.Shelf.Vars
import Derived.Lib.TrailingZeros
import Derived.Deep.DeepWitnessRowRef
import Derived.Test.YtiblkfkeifnpaaaGreatDoorZnc
import Derived.Test.YtiblkfkeifnpaaaGreatDoorZtz
set_option linter.all false
namespace Go.Proofs.YtiblkfkeifnpaaaGreatDoor.Me
open Go Go.ChangeShapes Go.WideShapes Go.ChangeAt Go.RowKit Go.ChangeMaps Go.Proofs.YtiblkfkeifnpaaaGreatDoor Go.Proofs.YtiblkfkeifnpaaaGreatDoor.Nt

set_option maxRecDepth 100000 in
theorem set_trod {H : Type} {enc : TypeId × Value → H} {W : World} {m : Nat} {c0 c1 : Value} {x : DataW H × List MemPlace}
    (hf : DataW.trod enc Tryz.prog W 0 (fun _ => true) true m 24 [c0, c1] = some x) :
    ∃ (a : Option Addr) (ps : List ByteArray) (cap : Nat) (n : Int), c0 = .slice a ps.length cap ∧ c1 = .int .i64 n ∧ PartsAt W (.slice a ps.length cap) ps ∧ ps.length ≤ maxLen := by
  obtain ⟨xs, m, _, hx, hl, hn, hF⟩ := DataW.trod_struct Tryz.underlying24 hf
  match xs, hn with
  | [x0, x1], _ =>
    have g0 : DataW.trod enc Tryz.prog W 0 (fun _ => true) true m 22 (([c0, c1].drop 0).take (Tryz.prog.cellsOf 22)) = some x0 := hF 0 _ rfl
    have g1 : DataW.trod enc Tryz.prog W 0 (fun _ => true) true m 3 (([c0, c1].drop 1).take (Tryz.prog.cellsOf 3)) = some x1 := hF 1 _ rfl
    have z1 : Tryz.prog.cellsOf 22 = 1 := by kernel_rfl
    have z2 : Tryz.prog.cellsOf 3 = 1 := by kernel_rfl
    rw [z1] at g0
    rw [z2] at g1
    simp only [List.drop_zero, List.take_succ_cons, List.take_zero, List.drop_succ_cons] at g0 g1
    obtain ⟨n, e1, y1, w1⟩ := DataW.trod_int Tryz.underlying3 g1
    rcases open_strings Tryz.underlying22 Tryz.underlying9 (by kernel_rfl) g0 with ⟨hcs, hx0⟩ | ⟨a, len, cap, ss, hcs, _, hl, hm, hlen, hx0, hcell, hsz⟩
    · simp at hcs e1
      subst hcs e1
      exact ⟨none, [], 0, n, rfl, rfl, ⟨none, 0, rfl, fun h => absurd h (Nat.lt_irrefl 0)⟩, Nat.zero_le _⟩
    · simp at hcs e1
      subst hcs e1
      simp only [if_true] at hlen
      have hpl : (ss.take len).length = len := by rw [List.length_take]; omega
      refine ⟨some a, ss.take len, cap, n, by rw [hpl], rfl, ⟨some a, cap, rfl, fun h0 => ?_⟩, by omega⟩
      rw [hpl] at h0
      have hc0 := hcell 0 (by omega)
      obtain ⟨blk, off, spot⟩ := a
      have hspot : spot = none := by simpa [Addr.add] using World.cell?_spot hc0
      subst hspot
      refine ⟨blk, off, rfl, by simpa [Addr.add] using World.block_lt_of_cell? W _ hc0, fun i hi => ?_⟩
      rw [hpl] at hi
      have hci := hcell i (by omega)
      have hadd : (⟨blk, off, none⟩ : Addr).add i = ⟨blk, off + i, none⟩ := by
        unfold Addr.add
        split
        · next h => subst h; rfl
        · rfl
      rw [hadd] at hci
      rw [hci]
      simp [List.getD, hi]
set_option maxRecDepth 100000 in
theorem tg_trod {H : Type} {enc : TypeId × Value → H} {w : World} {base : Nat} {spare : Nat → Bool} {held : Bool} {fuel : Nat} {cs : List Value} {x : DataW H × List MemPlace}
    (h : DataW.trod enc Tryz.prog w base spare held fuel 42 cs = some x) : ∃ t : TgM, cs = [.int .i64 t.1, .int .i64 t.2.1, .string t.2.2] := by
  obtain ⟨xs, m, _, hx, hl, hn, hF⟩ := DataW.trod_struct Tryz.underlying42 h
  rw [show Tryz.prog.cellsOf 42 = 3 by kernel_rfl] at hl
  match cs, hl, xs, hn with
  | [c0, c1, c2], _, [x0, x1, x2], _ =>
    have g0 : DataW.trod enc Tryz.prog w base spare held m 3 (([c0, c1, c2].drop 0).take (Tryz.prog.cellsOf 3)) = some x0 := hF 0 _ rfl
    have g1 : DataW.trod enc Tryz.prog w base spare held m 3 (([c0, c1, c2].drop 1).take (Tryz.prog.cellsOf 3)) = some x1 := hF 1 _ rfl
    have g2 : DataW.trod enc Tryz.prog w base spare held m 9 (([c0, c1, c2].drop 2).take (Tryz.prog.cellsOf 9)) = some x2 := hF 2 _ rfl
    have z3 : Tryz.prog.cellsOf 3 = 1 := by kernel_rfl
    have z9 : Tryz.prog.cellsOf 9 = 1 := by kernel_rfl
    rw [z3] at g0 g1
    rw [z9] at g2
    obtain ⟨s0, e0, y0, w0⟩ := DataW.trod_int Tryz.underlying3 g0
    obtain ⟨s1, e1, y1, w1⟩ := DataW.trod_int Tryz.underlying3 g1
    obtain ⟨s2, e2, y2, w2⟩ := DataW.trod_string Tryz.underlying9 g2
    simp [List.take, List.drop] at e0 e1 e2
    subst e0 e1 e2
    exact ⟨(s0, s1, s2), rfl⟩
set_option maxRecDepth 100000 in
theorem tgs_trod {H : Type} {enc : TypeId × Value → H} {W : World} {m : Nat} {c0 : Value} {x : DataW H × List MemPlace}
    (hf : DataW.trod enc Tryz.prog W 0 (fun _ => true) true m 26 [c0] = some x) :
    ∃ (a : Option Addr) (ts : List TgM) (cap : Nat), c0 = .slice a ts.length cap ∧ TgsAt W (.slice a ts.length cap) ts ∧ ts.length ≤ maxLen := by
  rcases Deep.open_slice Tryz.underlying26 hf with ⟨hcs, hx⟩ | ⟨a, l0, cap, m, n, D, Pl, hcs, hb, hl, hm, hmm, hde, hx⟩
  · simp at hcs
    subst hcs
    exact ⟨none, [], 0, rfl, ⟨none, 0, rfl, fun h => absurd h (Nat.lt_irrefl 0)⟩, Nat.zero_le _⟩
  · simp at hcs
    subst hcs
    simp only [if_true] at hmm
    have z31 : Tryz.prog.cellsOf 42 = 3 := by kernel_rfl
    have each : ∀ i, i < l0 → ∃ t : TgM, ∀ j u, ([Value.int .i64 t.1, .int .i64 t.2.1, .string t.2.2])[j]? = some u → W.cell? (a.add (i * 3 + j)) = some u := by
      intro i hi
      obtain ⟨cs', h1, h2⟩ := hx i (by omega)
      rw [z31] at h1
      obtain ⟨_, hlen, hcell⟩ := World.cells?_some h1
      obtain ⟨t, rfl⟩ := tg_trod h2
      refine ⟨t, fun j u hu => ?_⟩
      have hj : j < 3 := (List.getElem?_eq_some_iff.1 hu).1
      have e0 := hcell j (by omega)
      rw [Deep.add_add, hu] at e0
      exact e0
    obtain ⟨ts, hbl, hbs⟩ := choose_list l0 each
    refine ⟨some a, ts, cap, by rw [hbl], ⟨some a, cap, rfl, fun h0 => ?_⟩, by omega⟩
    rw [hbl] at h0
    have hc0 := hbs 0 h0 0 _ rfl
    rw [Nat.zero_mul] at hc0
    obtain ⟨blk, off, spot⟩ := a
    have hspot : spot = none := by simpa [Addr.add] using World.cell?_spot hc0
    subst hspot
    have hadd : ∀ j, (⟨blk, off, none⟩ : Addr).add j = ⟨blk, off + j, none⟩ := fun j => by
      unfold Addr.add
      split
      · next h => subst h; rfl
      · rfl
    refine ⟨blk, off, rfl, by simpa [Addr.add] using World.block_lt_of_cell? W _ hc0, fun i hi => ?_⟩
    rw [hbl] at hi
    have e0 := hbs i hi 0 _ rfl
    have e1 := hbs i hi 1 _ rfl
    have e2 := hbs i hi 2 _ rfl
    rw [hadd] at e0 e1 e2
    exact ⟨e0, by rw [Nat.add_assoc]; exact e1, by rw [Nat.add_assoc]; exact e2⟩
set_option maxRecDepth 100000 in
set_option maxHeartbeats 1600000 in
theorem doc_open {H : Type} {enc : TypeId × Value → H} {W : World} {base : Nat} {v : Value} {d : DataW H} {p : List MemPlace} {ts : List TypeId} {ds : List (DataW H)} {j : Nat}
    (hv : Value.okWide Tryz.prog W .any base 30 v) (h : DataW.Trod enc Tryz.prog W 0 (fun _ => true) true 30 v d p)
    (hz : (DataW.weightsEach Tryz.prog ts ds).all (· ≤ reachBytes) = true) (ht : ts[j]? = some 30) (hd : ds[j]? = some d) :
    ∃ (D : Dc) (z : Sl), v = docV D z ∧ DcAt W z D ∧ DcOk D := by
  obtain ⟨cs, rfl, hcs⟩ := okWide_struct Tryz.underlying30 hv
  obtain ⟨fuel, hf⟩ := h
  obtain ⟨xs, m, _, hx, hl, hn, hF⟩ := DataW.trod_struct Tryz.underlying30 hf
  rw [show Tryz.prog.cellsOf 30 = 21 by kernel_rfl] at hl
  have hs : ∀ k, k ∈ d.weights Tryz.prog 30 → k ≤ 140737488355328 := fun k hk => by
    have h4 := List.all_eq_true.1 hz _ (DataW.weights_mem_each (P := Tryz.prog) ht hd k hk)
    have h5 : k ≤ reachBytes := by simpa using h4
    unfold reachBytes at h5
    omega
  obtain ⟨l, hle⟩ : ∃ l, (Value.agg cs).cells.toList = l := ⟨_, rfl⟩
  rw [hle] at hl hF
  have hcv : cs = l.toArray := Array.ext' (by simpa [Value.cells] using hle)
  subst hcv
  clear hle hf hcs hv hz ht hd
  match l, hl, xs, hn with
  | [c0, c1, c2, c3, c4, c5, c6, c7, c8, c9, c10, c11, c12, c13, c14, c15, c16, c17, c18, c19, c20], _, [x0, x1, x2, x3, x4, x5, x6, x7, x8, x9, x10], _ =>
    have zi : Tryz.prog.cellsOf 3 = 1 := by kernel_rfl
    have zs : Tryz.prog.cellsOf 9 = 1 := by kernel_rfl
    have zt : Tryz.prog.cellsOf 26 = 1 := by kernel_rfl
    have ze : Tryz.prog.cellsOf 24 = 2 := by kernel_rfl
    have za : Tryz.prog.cellsOf 25 = 8 := by kernel_rfl
    have zc : Tryz.prog.cellsOf 28 = 3 := by kernel_rfl
    have g0 : DataW.trod enc Tryz.prog W 0 (fun _ => true) true m 3 [c0] = some x0 := by have h : DataW.trod enc Tryz.prog W 0 (fun _ => true) true m 3 (([c0, c1, c2, c3, c4, c5, c6, c7, c8, c9, c10, c11, c12, c13, c14, c15, c16, c17, c18, c19, c20].drop 0).take (Tryz.prog.cellsOf 3)) = some x0 := hF 0 _ rfl; rw [zi] at h; exact h
    have g1 : DataW.trod enc Tryz.prog W 0 (fun _ => true) true m 3 [c1] = some x1 := by have h : DataW.trod enc Tryz.prog W 0 (fun _ => true) true m 3 (([c0, c1, c2, c3, c4, c5, c6, c7, c8, c9, c10, c11, c12, c13, c14, c15, c16, c17, c18, c19, c20].drop 1).take (Tryz.prog.cellsOf 3)) = some x1 := hF 1 _ rfl; rw [zi] at h; exact h
    have g2 : DataW.trod enc Tryz.prog W 0 (fun _ => true) true m 3 [c2] = some x2 := by have h : DataW.trod enc Tryz.prog W 0 (fun _ => true) true m 3 (([c0, c1, c2, c3, c4, c5, c6, c7, c8, c9, c10, c11, c12, c13, c14, c15, c16, c17, c18, c19, c20].drop 2).take (Tryz.prog.cellsOf 3)) = some x2 := hF 2 _ rfl; rw [zi] at h; exact h
    have g3 : DataW.trod enc Tryz.prog W 0 (fun _ => true) true m 25 [c3, c4, c5, c6, c7, c8, c9, c10] = some x3 := by have h : DataW.trod enc Tryz.prog W 0 (fun _ => true) true m 25 (([c0, c1, c2, c3, c4, c5, c6, c7, c8, c9, c10, c11, c12, c13, c14, c15, c16, c17, c18, c19, c20].drop 3).take (Tryz.prog.cellsOf 25)) = some x3 := hF 3 _ rfl; rw [za] at h; exact h
    have g4 : DataW.trod enc Tryz.prog W 0 (fun _ => true) true m 24 [c11, c12] = some x4 := by have h : DataW.trod enc Tryz.prog W 0 (fun _ => true) true m 24 (([c0, c1, c2, c3, c4, c5, c6, c7, c8, c9, c10, c11, c12, c13, c14, c15, c16, c17, c18, c19, c20].drop 11).take (Tryz.prog.cellsOf 24)) = some x4 := hF 4 _ rfl; rw [ze] at h; exact h
    have g5 : DataW.trod enc Tryz.prog W 0 (fun _ => true) true m 9 [c13] = some x5 := by have h : DataW.trod enc Tryz.prog W 0 (fun _ => true) true m 9 (([c0, c1, c2, c3, c4, c5, c6, c7, c8, c9, c10, c11, c12, c13, c14, c15, c16, c17, c18, c19, c20].drop 13).take (Tryz.prog.cellsOf 9)) = some x5 := hF 5 _ rfl; rw [zs] at h; exact h
    have g6 : DataW.trod enc Tryz.prog W 0 (fun _ => true) true m 9 [c14] = some x6 := by have h : DataW.trod enc Tryz.prog W 0 (fun _ => true) true m 9 (([c0, c1, c2, c3, c4, c5, c6, c7, c8, c9, c10, c11, c12, c13, c14, c15, c16, c17, c18, c19, c20].drop 14).take (Tryz.prog.cellsOf 9)) = some x6 := hF 6 _ rfl; rw [zs] at h; exact h
    have g7 : DataW.trod enc Tryz.prog W 0 (fun _ => true) true m 26 [c15] = some x7 := by have h : DataW.trod enc Tryz.prog W 0 (fun _ => true) true m 26 (([c0, c1, c2, c3, c4, c5, c6, c7, c8, c9, c10, c11, c12, c13, c14, c15, c16, c17, c18, c19, c20].drop 15).take (Tryz.prog.cellsOf 26)) = some x7 := hF 7 _ rfl; rw [zt] at h; exact h
    have g8 : DataW.trod enc Tryz.prog W 0 (fun _ => true) true m 28 [c16, c17, c18] = some x8 := by have h : DataW.trod enc Tryz.prog W 0 (fun _ => true) true m 28 (([c0, c1, c2, c3, c4, c5, c6, c7, c8, c9, c10, c11, c12, c13, c14, c15, c16, c17, c18, c19, c20].drop 16).take (Tryz.prog.cellsOf 28)) = some x8 := hF 8 _ rfl; rw [zc] at h; exact h
    have g9 : DataW.trod enc Tryz.prog W 0 (fun _ => true) true m 3 [c19] = some x9 := by have h : DataW.trod enc Tryz.prog W 0 (fun _ => true) true m 3 (([c0, c1, c2, c3, c4, c5, c6, c7, c8, c9, c10, c11, c12, c13, c14, c15, c16, c17, c18, c19, c20].drop 19).take (Tryz.prog.cellsOf 3)) = some x9 := hF 9 _ rfl; rw [zi] at h; exact h
    have g10 : DataW.trod enc Tryz.prog W 0 (fun _ => true) true m 9 [c20] = some x10 := by have h : DataW.trod enc Tryz.prog W 0 (fun _ => true) true m 9 (([c0, c1, c2, c3, c4, c5, c6, c7, c8, c9, c10, c11, c12, c13, c14, c15, c16, c17, c18, c19, c20].drop 20).take (Tryz.prog.cellsOf 9)) = some x10 := hF 10 _ rfl; rw [zs] at h; exact h
    clear hF
    obtain ⟨n0, e0, _, _⟩ := DataW.trod_int Tryz.underlying3 g0
    obtain ⟨n1, e1, _, _⟩ := DataW.trod_int Tryz.underlying3 g1
    obtain ⟨n2, e2, _, _⟩ := DataW.trod_int Tryz.underlying3 g2
    obtain ⟨n9, e9, _, _⟩ := DataW.trod_int Tryz.underlying3 g9
    obtain ⟨s5, e5, _, _⟩ := DataW.trod_string Tryz.underlying9 g5
    obtain ⟨s6, e6, y6, _⟩ := DataW.trod_string Tryz.underlying9 g6
    obtain ⟨s10, e10, _, _⟩ := DataW.trod_string Tryz.underlying9 g10
    simp at e0 e1 e2 e9 e5 e6 e10
    subst e0 e1 e2 e9 e5 e6 e10
    obtain ⟨ys, m2, _, hy, hyl, hyn, hG⟩ := DataW.trod_array Tryz.underlying25 g3
    rw [ze] at hG
    match ys, hyn with
    | [y0, y1, y2, y3], _ =>
      have k0 : DataW.trod enc Tryz.prog W 0 (fun _ => true) true m2 24 [c3, c4] = some y0 := hG 0 (by decide)
      have k1 : DataW.trod enc Tryz.prog W 0 (fun _ => true) true m2 24 [c5, c6] = some y1 := hG 1 (by decide)
      have k2 : DataW.trod enc Tryz.prog W 0 (fun _ => true) true m2 24 [c7, c8] = some y2 := hG 2 (by decide)
      have k3 : DataW.trod enc Tryz.prog W 0 (fun _ => true) true m2 24 [c9, c10] = some y3 := hG 3 (by decide)
      obtain ⟨a0, p0, q0, i0, rfl, rfl, u0, l0⟩ := set_trod k0
      obtain ⟨a1, p1, q1, i1, rfl, rfl, u1, l1⟩ := set_trod k1
      obtain ⟨a2, p2, q2, i2, rfl, rfl, u2, l2⟩ := set_trod k2
      obtain ⟨a3, p3, q3, i3, rfl, rfl, u3, l3⟩ := set_trod k3
      obtain ⟨a4, p4, q4, i4, rfl, rfl, u4, l4⟩ := set_trod g4
      obtain ⟨a5, ts5, q5, rfl, u5, l5⟩ := tgs_trod g7
      clear hG k0 k1 k2 k3 g0 g1 g2 g3 g4 g5 g6 g7 g9 g10
      obtain ⟨vs, m3, _, hw, hwl, hwn, hK⟩ := DataW.trod_struct Tryz.underlying28 g8
      match vs, hwn with
      | [w0, w1, w2], _ =>
        have r0 : DataW.trod enc Tryz.prog W 0 (fun _ => true) true m3 9 [c16] = some w0 := by have h : DataW.trod enc Tryz.prog W 0 (fun _ => true) true m3 9 (([c16, c17, c18].drop 0).take (Tryz.prog.cellsOf 9)) = some w0 := hK 0 _ rfl; rw [zs] at h; exact h
        have r1 : DataW.trod enc Tryz.prog W 0 (fun _ => true) true m3 3 [c17] = some w1 := by have h : DataW.trod enc Tryz.prog W 0 (fun _ => true) true m3 3 (([c16, c17, c18].drop 1).take (Tryz.prog.cellsOf 3)) = some w1 := hK 1 _ rfl; rw [zi] at h; exact h
        have r2 : DataW.trod enc Tryz.prog W 0 (fun _ => true) true m3 9 [c18] = some w2 := by have h : DataW.trod enc Tryz.prog W 0 (fun _ => true) true m3 9 (([c16, c17, c18].drop 2).take (Tryz.prog.cellsOf 9)) = some w2 := hK 2 _ rfl; rw [zs] at h; exact h
        obtain ⟨t0, f0, v0, _⟩ := DataW.trod_string Tryz.underlying9 r0
        obtain ⟨t1, f1, _, _⟩ := DataW.trod_int Tryz.underlying3 r1
        obtain ⟨t2, f2, v2, _⟩ := DataW.trod_string Tryz.underlying9 r2
        simp at f0 f1 f2
        subst f0 f1 f2
        have hde : d = .agg [x0.1, x1.1, x2.1, x3.1, x4.1, x5.1, x6.1, x7.1, x8.1, x9.1, x10.1] := congrArg Prod.fst hx
        have h6 : x6.1 = .lit (.string s6.data.toList) := by rw [y6]
        have h8 : x8.1 = .agg [w0.1, w1.1, w2.1] := congrArg Prod.fst hw
        have hw0 : w0.1 = .lit (.string t0.data.toList) := by rw [v0]
        have hw2 : w2.1 = .lit (.string t2.data.toList) := by rw [v2]
        have b6 := hs s6.data.toList.length (by
          rw [hde, h6]
          simp only [DataW.weights, Tryz.underlying30]
          exact DataW.weights_mem_each (P := Tryz.prog) (show ([3, 3, 3, 25, 24, 9, 9, 26, 28, 3, 9] : List TypeId)[6]? = some 9 from rfl) (show ([x0.1, x1.1, x2.1, x3.1, x4.1, x5.1, .lit (.string s6.data.toList), x7.1, x8.1, x9.1, x10.1] : List (DataW H))[6]? = some (.lit (.string s6.data.toList)) from rfl) _ (by simp [DataW.weights]))
        have b8 : ∀ k, k ∈ x8.1.weights Tryz.prog 28 → k ≤ 140737488355328 := fun k hk => hs k (by
          rw [hde]
          simp only [DataW.weights, Tryz.underlying30]
          exact DataW.weights_mem_each (P := Tryz.prog) (show ([3, 3, 3, 25, 24, 9, 9, 26, 28, 3, 9] : List TypeId)[8]? = some 28 from rfl) (show ([x0.1, x1.1, x2.1, x3.1, x4.1, x5.1, x6.1, x7.1, x8.1, x9.1, x10.1] : List (DataW H))[8]? = some x8.1 from rfl) _ hk)
        have b80 := b8 t0.data.toList.length (by
          rw [h8, hw0]
          simp only [DataW.weights, Tryz.underlying28]
          exact DataW.weights_mem_each (P := Tryz.prog) (show ([9, 3, 9] : List TypeId)[0]? = some 9 from rfl) (show ([.lit (.string t0.data.toList), w1.1, w2.1] : List (DataW H))[0]? = some (.lit (.string t0.data.toList)) from rfl) _ (by simp [DataW.weights]))
        have b82 := b8 t2.data.toList.length (by
          rw [h8, hw2]
          simp only [DataW.weights, Tryz.underlying28]
          exact DataW.weights_mem_each (P := Tryz.prog) (show ([9, 3, 9] : List TypeId)[2]? = some 9 from rfl) (show ([w0.1, w1.1, .lit (.string t2.data.toList)] : List (DataW H))[2]? = some (.lit (.string t2.data.toList)) from rfl) _ (by simp [DataW.weights]))
        rw [data_len] at b6 b80 b82
        exact ⟨⟨n0, n1, n2, ⟨(p0, i0), (p1, i1), (p2, i2), (p3, i3), (p4, i4), s5, s6, ts5, ⟨t0, t1, t2⟩, n9, s10⟩⟩, ⟨(a0, q0), (a1, q1), (a2, q2), (a3, q3), (a4, q4), (a5, q5)⟩, rfl, ⟨u0, u1, u2, u3, u4, u5⟩, ⟨l0, l1, l2, l3, l4, l5, b6, b80, b82⟩⟩
end Go.Proofs.YtiblkfkeifnpaaaGreatDoor.Me

namespace Go.Proofs.YtiblkfkeifnpaaaGreatDoor.Me
open Go Go.ChangeShapes Go.WideShapes Go.ChangeAt Go.RowKit Go.ChangeMaps Go.Proofs.YtiblkfkeifnpaaaGreatDoor Go.Proofs.YtiblkfkeifnpaaaGreatDoor.Nt

abbrev sx : List (String × DataW Unit) := [("math/bits.deBruijn32tab", Rows.laid_math_bits_deBruijn32tab), ("math/bits.deBruijn64tab", Rows.laid_math_bits_deBruijn64tab), ("internal/strconv.uint64pow10", Rows.laid_internal_strconv_uint64pow10), ("ostler/sha.roundWords", Rows.laid_ostler_sha_roundWords)]
theorem met_tens {W : World} (h : laidMetH Tryz.prog sx W) : laidMetH Tryz.prog [("internal/strconv.uint64pow10", Rows.laid_internal_strconv_uint64pow10)] W := h.filter fun x => x.1 == "internal/strconv.uint64pow10"
theorem gP10 : Tryz.prog.globalNamed "internal/strconv.uint64pow10" = some 1 := by kernel_rfl
theorem gP10Type : (Tryz.prog.globals[1]?).map (·.type) = some 191 := by kernel_rfl
theorem cellsP10 : Tryz.prog.cellsOf 191 = 20 := by kernel_rfl
theorem cellsU64 : Tryz.prog.cellsOf 110 = 1 := by kernel_rfl
theorem table10 {W : World} (h : laidMetH Tryz.prog [("internal/strconv.uint64pow10", Rows.laid_internal_strconv_uint64pow10)] W) : Lib.TabIs Tryz.prog W "internal/strconv.uint64pow10" .u64 Lib.pow10Tab :=
  Lib.tabIs_of_head (rest := []) gP10 gP10Type Tryz.underlying191 Tryz.underlying110 cellsU64 cellsP10 h
theorem nlV {W : World} (h : laidMetH Tryz.prog sx W) (hsh : W.ShapedOpen Tryz.prog) : NL W.heap.size W := by
  have h3 := table10 (met_tens h)
  have hc := h3.cell gP10 0 (by rw [Lib.pow10Tab_length]; decide)
  obtain ⟨m, hm⟩ : ∃ m, W.cell? ⟨2, 0, none⟩ = some (.int .i64 m) :=
    cell_of_shapedOpen_int (t := 3) (zero := #[.int .i64 0]) hsh (of_decide_eq_true (by kernel_rfl)) (by kernel_rfl) rfl (by kernel_rfl) (by kernel_rfl) Tryz.underlying3
  refine ⟨fun w' hb => ?_, ⟨m, hm⟩, block_lt_of_cell hm⟩
  unfold Lib.TabIs World.var? at *
  rw [gP10] at h3 ⊢
  simp only [Option.bind_some] at h3 ⊢
  rw [hb.block _ (block_lt_of_cell hc)]
  exact h3
theorem kisV {W : World} (h : laidMetH Tryz.prog sx W) : KIs W := kis (h.filter fun x => x.1 == "ostler/sha.roundWords")
/-- A table's cells set. -/
noncomputable def setT (cs : List Value) : Obj → Obj
  | .cells _ t frozen => .cells cs.toArray t frozen
  | o => o
noncomputable def laidWorld4 (os : Os) : World :=
  { World.holding Tryz.prog os ⟨#[], #[], []⟩ with heap := (((((World.holding Tryz.prog os ⟨#[], #[], []⟩).heap.modify 4 (setT (Lib.deBruijn64tab.map fun x : Nat => Value.int .u8 (x : Int)))).modify 3 (setT (Lib.deBruijn32tab.map fun x : Nat => Value.int .u8 (x : Int)))).modify 1 (setT (Lib.pow10Tab.map fun x : Int => Value.int .u64 x))).modify 0 (setT (k64.map fun x => Value.int .u32 (U x)))) }
end Go.Proofs.YtiblkfkeifnpaaaGreatDoor.Me
