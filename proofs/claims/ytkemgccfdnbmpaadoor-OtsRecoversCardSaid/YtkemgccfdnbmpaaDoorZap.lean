/- append(b, make([]byte, n)...): n zeros behind a row of bytes that []byte(s) made; its text. -/
import Derived.Test.YtkemgccfdnbmpaaDoorMrk
namespace Go.Proofs.YtkemgccfdnbmpaaDoor
open Go Go.RowKit

theorem zeroCells_one (z : Value) (n : Nat) : Builtin.zeroCells #[z] n = (List.replicate n z).toArray := by
  apply Array.ext'
  simp [Builtin.zeroCells, Nat.mod_one, List.map_const']
section
variable {P : Program} (w : World)
theorem run_append_zeros_room (t u ty e : TypeId) (i : TypeInfo) (z : Value) (ht : P.underlying t = some (.slice e)) (hu : P.underlying u = some (.int .i64)) (hi : P.info? e = some i) (hz : i.zero = some z) (hs1 : i.size = 1) (hb1 : i.bytes = 1) (hzc : z.cells = #[z]) (hzo : z.oneCell' = true)
    (b sLen sCap n : Nat) (h0 : 0 < n) (hn : n ≤ 1000000)
    (hroom : sLen + n ≤ sCap) (hc : ∀ j, j < n → (w.cell? ⟨b, sLen + j, none⟩).isSome = true) (hf : ∀ j, j < n → w.frozen? ⟨b, sLen + j, none⟩ = false) :
    (Builtin.append_ #[t, u] ty #[.slice (some ⟨b, 0, none⟩) sLen sCap, .int .i64 (n : Int)]).run P w = .ok (.slice (some ⟨b, 0, none⟩) (sLen + n) sCap) (w.setCells b sLen (List.replicate n z)) := by
  have hst := run_storeCells_cells (P := P) b sLen (List.replicate n z) 0 w (by simpa using hc) (by simpa using hf) (by intro u hu; simp at hu; rw [hu.2]; exact hzo)
  simp only [Nat.add_zero] at hst
  have hai : ∀ w, (asInt (.int .i64 (n : Int))).run P w = .ok (n : Int) w := fun _ => rfl
  have hwr : IntKind.i64.wrap (n : Int) = (n : Int) := IntWalk.i64_in _ (by omega)
  have hneg : ¬ ((n : Int) < 0) := by omega
  have hbig : ¬ (281474976710656 < (n : Int)) := by omega
  have hnz : ¬ n = 0 := by omega
  simp [Builtin.append_, run_underlying ht, run_underlying hu, sizeOf, typeInfo, zeroValue, hi, hz, hs1, hb1, hai, hwr, hneg, hbig, hnz, hroom, Addr.add_lit, hzc, zeroCells_one, hst]
theorem run_append_zeros_grow (t u ty e : TypeId) (i : TypeInfo) (z : Value) (ht : P.underlying t = some (.slice e)) (hu : P.underlying u = some (.int .i64)) (hi : P.info? e = some i) (hz : i.zero = some z) (hs1 : i.size = 1) (hb1 : i.bytes = 1) (hzc : z.cells = #[z])
    (b : Addr) (sLen sCap n : Nat) (olds : List Value) (hlo : olds.length = sLen) (holds : ∀ j v, olds[j]? = some v → w.cell? (b.add j) = some v) (h0 : 0 < n) (hn : n ≤ 1000000) (hsl : sLen + n ≤ 140737488355328)
    (hg : sCap < sLen + n) :
    (Builtin.append_ #[t, u] ty #[.slice (some b) sLen sCap, .int .i64 (n : Int)]).run P w =
      .ok (.slice (some ⟨w.heap.size, 0, none⟩) (sLen + n) (grownCap w (sLen + n) sCap e))
        (w.drew.alloc (.cells (olds.toArray ++ (List.replicate n z).toArray ++ (List.replicate (grownCap w (sLen + n) sCap e - (sLen + n)) z).toArray) e)) := by
  have hai : ∀ w, (asInt (.int .i64 (n : Int))).run P w = .ok (n : Int) w := fun _ => rfl
  have hwr : IntKind.i64.wrap (n : Int) = (n : Int) := IntWalk.i64_in _ (by omega)
  have hneg : ¬ ((n : Int) < 0) := by omega
  have hbig : ¬ (281474976710656 < (n : Int)) := by omega
  have hnz : ¬ n = 0 := by omega
  have hnr : ¬ (sLen + n ≤ sCap) := by omega
  have h63' : ¬ (9223372036854775807 < ((sLen : Int) + (n : Int))) := by omega
  have hfit : Builtin.nextslicecap (sLen + n) sCap * 1 ≤ 281474976710656 := growslice_fits (by omega) (by omega)
  have h48' : ¬ (281474976710656 < Builtin.nextslicecap (sLen + n) sCap) := by omega
  have hfo := run_firstCells_some (P := P) w.drew 1 sLen b sLen sCap olds (by omega) (by simpa using holds)
  simp [Builtin.append_, run_underlying ht, run_underlying hu, sizeOf, typeInfo, zeroValue, hi, hz, hs1, hb1, hai, hwr, hneg, hbig, hnz, hnr, h63', h48', Question.forced, hfo, newRow, grownCap, hzc, zeroCells_one]
end

theorem OwnB.text {w : World} {B : Nat} {v : Value} {l : List UInt8} (h : OwnB w B v l) : (convert 29 9 v).run Tryd.prog w = .ok (.string ⟨l.toArray⟩) w := by
  obtain ⟨rfl, rfl⟩ | ⟨g, cap, cur, fz, rfl, hb, hg, hcs, hn0, hfz, hcell⟩ := h.ex
  · exact run_convert_bytes_nil (P := Tryd.prog) w 29 5 Tryd.underlying29 Tryd.underlying5 _ _ 9 Tryd.underlying9
  · have hc : ∀ i, i < l.length → w.cell? ⟨g, 0 + i, none⟩ = some (.int .u8 ((l.map Y).getD i 0)) := by
      intro i hi
      rw [Nat.zero_add, cell_of_row w g i cur _ _ hg, hcell i hi]
      simp [hi, yc, List.getD]
    have := run_convert_bytes_arg (P := Tryd.prog) w 29 5 Tryd.underlying29 Tryd.underlying5 g 0 l.length cap (l.map Y) (by simp) hc 9 Tryd.underlying9
    rw [Y_back] at this; exact this

/-- Zeros behind such a row. -/
theorem OwnB.zeros {w : World} {B : Nat} {v : Value} {l : List UInt8} (ty : TypeId) (h : OwnB w B v l) (hv : v ≠ .slice none 0 0) (hB : B ≤ w.heap.size) (n : Nat) (h0 : 0 < n) (hn : n ≤ 1000000) (hl : l.length + n ≤ 140737488355328) :
    ∃ v' w', (Builtin.append_ #[29, 3] ty #[v, .int .i64 (n : Int)]).run Tryd.prog w = .ok v' w' ∧ OwnB w' B v' (l ++ List.replicate n 0) ∧ Below B w w' := by
  obtain ⟨i0, hi, hz0, hz1, hz2⟩ := info_parts info5
  obtain ⟨rfl, rfl⟩ | ⟨g, cap, cur, fz, rfl, hb, hg, hcs, hn0, hfz, hcell⟩ := h.ex
  · exact absurd rfl hv
  have hll : (l ++ List.replicate n (0 : UInt8)).length = l.length + n := by rw [List.length_append, List.length_replicate]
  have hmz : (List.replicate n (0 : UInt8)).map yc = List.replicate n (.int .u8 0) := by rw [List.map_replicate]; rfl
  by_cases hr : l.length + n ≤ cap
  · refine ⟨_, _, run_append_zeros_room (P := Tryd.prog) w 29 3 ty 5 i0 (.int .u8 0) Tryd.underlying29 Tryd.underlying3 hi hz0 hz1 hz2 rfl rfl g l.length cap n h0 hn hr (fun j hj => ?_) (fun j hj => ?_), ?_, below_cells hb _ _ _ _ (Below.refl _ _)⟩
    · rw [cell_of_row w g _ cur _ fz hg]; simp; omega
    · obtain ⟨lo, hi'⟩ := fz
      simp only at hfz
      simp only [World.frozen?, hg, Bool.and_eq_false_iff, decide_eq_false_iff_not]
      omega
    · have hlt : g < w.heap.size := (Array.getElem?_eq_some_iff.1 hg).1
      have kb := World.keptBut_setCells g (may := fun p => ∃ j, j < n ∧ p = .cell g (l.length + j)) (List.replicate n (Value.int .u8 0)) l.length w (fun j hj => ⟨j, by simpa using hj, rfl⟩)
      have hin := World.cell?_setCells_in g (List.replicate n (Value.int .u8 0)) l.length w (fun j hj => by
        simp only [List.length_replicate] at hj
        rw [cell_of_row w g _ cur _ fz hg]; simp; omega)
      have hk := kb.2.2 g hlt
      rw [hg] at hk
      generalize w.setCells g l.length (List.replicate n (Value.int .u8 0)) = w' at hk hin kb ⊢
      obtain ⟨cur', hg', hs', hc'⟩ : ∃ cur', w'.heap[g]? = some (.cells cur' 5 fz) ∧ cur'.size = cur.size ∧ ∀ j, j < l.length → cur'[j]? = cur[j]? := by
        cases hq : w'.heap[g]? with
        | none => rw [hq] at hk; simp at hk
        | some ob =>
          rw [hq] at hk
          cases ob with
          | cells c t fr =>
            obtain ⟨rfl, rfl, h1, h2⟩ := hk
            exact ⟨c, rfl, h1, fun j hj => h2 j (by rintro ⟨i, _, e⟩; simp at e; omega)⟩
          | _ => simp at hk
      refine ⟨.inr ⟨g, cap, cur', fz, by rw [hll], hb, hg', by omega, by rw [hll]; exact hr, ?_, fun j hj => ?_⟩⟩
      · rw [hll]; omega
      · rw [hll] at hj
        by_cases hjl : j < l.length
        · rw [hc' j hjl, hcell j hjl, List.map_append, List.getElem?_append_left (by simpa using hjl)]
        · have h1 := hin (j - l.length) (by simp; omega)
          rw [cell_of_row w' g _ cur' _ fz hg', show l.length + (j - l.length) = j by omega] at h1
          rw [h1, List.map_append, List.getElem?_append_right (by simp; omega), hmz, List.length_map, List.getElem?_replicate, if_pos (by omega), List.getElem_replicate]
  · have holds : ∀ j u, (l.map yc)[j]? = some u → w.cell? ((⟨g, 0, none⟩ : Addr).add j) = some u := fun j u hj => by
      have hjl : j < l.length := by
        rcases Nat.lt_or_ge j l.length with h | h
        · exact h
        · rw [List.getElem?_eq_none (by simpa using h)] at hj; cases hj
      rw [Addr.add_lit, Nat.zero_add, cell_of_row w g j cur _ fz hg, hcell j hjl]; exact hj
    have hge := grownCap_ge w (l.length + n) cap 5
    refine ⟨_, _, run_append_zeros_grow (P := Tryd.prog) w 29 3 ty 5 i0 (.int .u8 0) Tryd.underlying29 Tryd.underlying3 hi hz0 hz1 hz2 rfl ⟨g, 0, none⟩ l.length cap n (l.map yc) (by simp) holds h0 hn hl (by omega), ?_, ?_⟩
    · generalize grownCap w (l.length + n) cap 5 = c at hge
      refine ⟨.inr ⟨w.heap.size, c, _, _, by rw [hll], hB, heap_alloc_new w.drew _, ?_, by rw [hll]; exact hge, .inl (Nat.zero_le _), fun j hj => ?_⟩⟩
      · simp; omega
      · rw [hll] at hj
        rw [Array.append_assoc, ← Array.getElem?_toList, Array.toList_append, Array.toList_append]
        simp only [List.map_append, hmz]
        by_cases hjl : j < l.length
        · rw [List.getElem?_append_left (by simpa using hjl), List.getElem?_append_left (by simpa using hjl)]
        · rw [List.getElem?_append_right (by simp; omega), List.getElem?_append_left (by simp; omega), List.getElem?_append_right (by simp; omega)]
    · exact (Drawn.below ⟨1, rfl⟩ : Below B w w.drew).alloc (by simpa using hB) _
end Go.Proofs.YtkemgccfdnbmpaaDoor
