/- What the law PackBack keeps: a writer, and the operations that fit. -/
import Derived.Test.YtnfcgjefliccgaaPbB
import Derived.Test.YtnfcgjefliccgaaPkL
namespace Go.Proofs.Ytnfcgjefliccgaa
open Go.RowKit

theorem cells_get : ∀ (os : List OpM) (i j : Nat) (h : i < os.length), j < 3 → (os.flatMap OpM.cells)[i * 3 + j]? = (os[i]).cells[j]?
  | [], i, _, h, _ => by cases h
  | o :: os, 0, j, _, hj => by
    rw [List.flatMap_cons, Nat.zero_mul, Nat.zero_add, List.getElem?_append_left (by simpa [OpM.cells] using hj)]; rfl
  | o :: os, i + 1, j, h, hj => by
    have hl : o.cells.length = 3 := rfl
    rw [List.flatMap_cons, List.getElem?_append_right (by rw [hl]; omega), hl, show (i + 1) * 3 + j - 3 = i * 3 + j by omega]
    exact cells_get os i j (by simpa using h) hj
/-- The writer in bw has laid l; fv is a slice of the operations os; below w0's size all is as in w0. -/
structure PB (w0 : World) (bw : Nat) (fv : Value) (os : List OpM) (l : List UInt8) (w : World) : Prop where
  wr : ∃ v, WAt w bw 26 v l false ∧ ∀ k, v.ownBlock = some k → w0.heap.size ≤ k
  row : w.ownsRow w0.heap.size 31 3 fv os.length (os.flatMap OpM.cells)
  k : Below w0.heap.size w0 w
  lw : w0.heap.size ≤ bw
theorem row3_kept {w w' : World} {B : Nat} {e : TypeId} {v : Value} {n : Nat} {xs : List Value} (h : w.ownsRow B e 3 v n xs) (hk : ∀ k, v.ownBlock = some k → w'.heap[k]? = w.heap[k]?) : w'.ownsRow B e 3 v n xs := by
  obtain ⟨h1, h0 | ⟨g, cap, cur, rfl, a1, hg, a2⟩⟩ := h
  · exact ⟨h1, .inl h0⟩
  · exact ⟨h1, .inr ⟨g, cap, cur, rfl, a1, (hk g rfl).trans hg, a2⟩⟩
theorem row3_apart {w : World} {B : Nat} {e : TypeId} {v : Value} {n : Nat} {xs : List Value} {b : Nat} {cs : List Value} {t : TypeId} (h : w.ownsRow B e 3 v n xs) (hb : Blk w b cs t) (ht : t ≠ e) : v.ownBlock ≠ some b := by
  intro e
  obtain ⟨_, ⟨rfl, h0⟩ | ⟨g, cap, cur, rfl, _, hg, _⟩⟩ := h
  · cases e
  · obtain rfl : g = b := by simpa [Value.ownBlock] using e
    unfold Blk at hb
    rw [hg] at hb
    simp at hb
    exact ht hb.2.symm
theorem rows_apart {w : World} {B : Nat} {fv v : Value} {n : Nat} {xs : List Value} {l : List UInt8} (h : w.ownsRow B 31 3 fv n xs) (hv : Own w v l) (k : Nat) (h1 : fv.ownBlock = some k) : v.ownBlock ≠ some k := by
  intro h2
  obtain ⟨_, ⟨rfl, h0⟩ | ⟨g, cap, cur, rfl, _, hg, _⟩⟩ := h
  · cases h1
  · obtain ⟨_, ⟨rfl, h0⟩ | ⟨g2, cap2, cur2, rfl, _, hg2, _⟩⟩ := hv
    · cases h2
    · obtain rfl : g = k := by simpa [Value.ownBlock] using h1
      obtain rfl : g2 = g := by simpa [Value.ownBlock] using h2
      rw [hg] at hg2
      simp at hg2
section
variable {w0 w w' wb : World} {bw : Nat} {fv : Value} {os : List OpM} {l : List UInt8}
theorem PB.keep (h : PB w0 bw fv os l w) (hb : Below w.heap.size w w') : PB w0 bw fv os l w' := by
  obtain ⟨v, hv, hl⟩ := h.wr
  have hc : Chg (fun k => w.heap.size ≤ k) w w' := Chg.of_below hb
  refine ⟨⟨v, hv.chg hc ?_ fun k hk => ?_, hl⟩, row3_kept h.row fun k hk => hb.block k (h.row.lt k hk).2, h.k.trans (hb.mono h.k.size), h.lw⟩
  · have := hv.blk.lt; omega
  · have := hv.own.lt k hk; omega
theorem PB.lt (h : PB w0 bw fv os l w) : bw < w.heap.size := by
  obtain ⟨v, hv, _⟩ := h.wr
  exact hv.blk.lt
/-- The document's writer behind a first laying, beside a new one. -/
structure XAt (B bx : Nat) (l : List UInt8) (bad : Bool) (w : World) : Prop where
  out : ∃ x, WAt w bx 28 x l bad ∧ (∀ k, x.ownBlock = some k → B ≤ k)
  lb : B ≤ bx
theorem first_lay (k : UInt8) (n : Int) (s : ByteArray) (hn : -9223372036854775808 ≤ n ∧ n ≤ 9223372036854775807) :
    Calls Try.prog 8 #[.pointer (some ⟨wb.heap.size + 1, 0, none⟩), .pointer (some ⟨wb.heap.size, 0, none⟩), .agg #[.int .u8 (k.toNat : Int), .int .i64 n, .string s]] ((wb.alloc (.cells #[.slice none 0 0, .bool false] 28)).alloc (.cells #[.slice none 0 0, .bool false] 26))
      fun r w' => r = .returned (.tuple #[]) ∧ Box (XAt wb.heap.size wb.heap.size (laysX (opOk k n s) (opL k n s) []) (!opOk k n s) w') ∧ Box (Below wb.heap.size wb w') := by
  have a1 := new_writer wb 28
  have a2 := new_writer (wb.alloc (.cells #[.slice none 0 0, .bool false] 28)) 26
  have e1 : (wb.alloc (.cells #[.slice none 0 0, .bool false] 28)).heap.size = wb.heap.size + 1 := by simp
  rw [e1] at a2
  have hB : Both ((wb.alloc (.cells #[.slice none 0 0, .bool false] 28)).alloc (.cells #[.slice none 0 0, .bool false] 26)) (wb.heap.size + 1) wb.heap.size (.slice none 0 0) (.slice none 0 0) [] [] false false :=
    ⟨a2, a1.alloc _, fun k hk => by cases hk⟩
  have hb0 : Below wb.heap.size wb ((wb.alloc (.cells #[.slice none 0 0, .bool false] 28)).alloc (.cells #[.slice none 0 0, .bool false] 26)) :=
    ((Below.refl _ _).alloc (Nat.le_refl _) _).alloc (by rw [e1]; omega) _
  refine (lay_any k n s _ _ _ _ [] [] false false _ hB hn (by simp) (by simp)).mono fun r w' ⟨hr, hN⟩ => ⟨hr, ?_⟩
  obtain ⟨v', x', hB', hC, p1, p2⟩ := hN.out
  have hsz := hb0.size
  refine ⟨⟨⟨x', hB'.fx, fun j hj => ?_⟩, Nat.le_refl _⟩, ⟨hb0.trans (hC.below hsz ?_)⟩⟩
  · rcases p2 j hj with e | e
    · cases e
    · omega
  · rintro j ((rfl | e) | (rfl | e))
    · omega
    · cases e
    · exact Nat.le_refl _
    · cases e
theorem PB.lay {bx : Nat} {lx : List UInt8} (h : PB w0 bw fv os l w) (hx : XAt wb.heap.size bx lx false w) (hp : PB w0 bw fv os l wb) (k : UInt8) (n : Int) (s : ByteArray) (hn : -9223372036854775808 ≤ n ∧ n ≤ 9223372036854775807) (hok : opOk k n s = true) (hl : l.length ≤ 19661100) (hlx : lx.length ≤ 65537) (hbw : Below wb.heap.size wb w)
    (bo : Nat) (cs : List Value) (hbo : Blk w bo cs 31) (hne : bo ≠ bw ∧ bo < wb.heap.size) :
    Calls Try.prog 8 #[.pointer (some ⟨bw, 0, none⟩), .pointer (some ⟨bx, 0, none⟩), .agg #[.int .u8 (k.toNat : Int), .int .i64 n, .string s]] w
      fun r w' => r = .returned (.tuple #[]) ∧ Box (PB w0 bw fv os (l ++ opL k n s) w') ∧ Blk w' bo cs 31 := by
  obtain ⟨x, hxa, hxo⟩ := hx.out
  have hlb := hx.lb
  obtain ⟨v, hv, hvl⟩ := hp.wr
  have hvw : WAt w bw 26 v l false := by
    have hc : Chg (fun k => wb.heap.size ≤ k) wb w := Chg.of_below hbw
    refine hv.chg hc ?_ fun j hj => ?_
    · have := hv.blk.lt; omega
    · have := hv.own.lt j hj; omega
  have hB : Both w bw bx v x l lx false false := ⟨hvw, hxa, fun j h1 h2 => by have := hv.own.lt j h1; have := hxo j h2; omega⟩
  have hw0 := hp.k.size
  refine (lay_any k n s bw bx v x l lx false false w hB hn (by omega) (by omega)).mono fun r w' ⟨hr, hN⟩ => ⟨hr, ?_⟩
  obtain ⟨v', x', hB', hC, p1, p2⟩ := hN.out
  have hsz := h.k.size
  rw [hok] at hB'
  refine ⟨⟨⟨v', by simpa [lays] using hB'.fw, fun j hj => ?_⟩, row3_kept h.row fun j hj => hC.block j (h.row.lt j hj).2 ?_, h.k.trans (hC.below hsz ?_), h.lw⟩, hC.blk hbo ?_⟩
  · rcases p1 j hj with e | e
    · exact hvl j e
    · omega
  · rintro ((rfl | e) | (rfl | e))
    · exact row3_apart h.row hvw.blk (by decide) hj
    · exact rows_apart h.row hvw.own j hj e
    · exact row3_apart h.row hxa.blk (by decide) hj
    · exact rows_apart h.row hxa.own j hj e
  · rintro j ((rfl | e) | (rfl | e))
    · exact h.lw
    · exact hvl j e
    · omega
    · have := hxo j e; omega
  · rintro ((e | e) | (e | e))
    · exact hne.1 e
    · exact hvw.own.apart hbo (by decide) e
    · omega
    · have := hxo _ e; omega
theorem infoO : (Try.prog.info? 31).map (fun i => (i.zero, i.size, i.bytes)) = some (some (.agg #[.int .u8 0, .int .i64 0, .string ByteArray.empty]), 3, 32) := by kernel_rfl
theorem PB.wpList_fit {ops : Array Oper} {rest : List Oper} {o : Oper} {a : Act} {Q : Exit → Act → World → Prop} (hgd : o.guard = none) (s x : Operand)
    (ho : o.op = .call { callee := .builtin .append, args := #[s, x], argTypes := #[22, 22] }) (hs : a.eval s = fv) (h : PB w0 bw fv os l w) (g : Nat) (m : OpM)
    (hx : a.eval x = .slice (some ⟨g, 0, none⟩) 1 1) (hn : ∀ j, j < 3 → w.cell? ⟨g, j, none⟩ = m.cells[j]?) (hos : os.length ≤ 1000)
    (k : ∀ fv' w', PB w0 bw fv' (os ++ [m]) l w' → wpList Try.prog ops Q rest (a.put o.dst fv') w') : wpList Try.prog ops Q (o :: rest) a w := by
  obtain ⟨i0, hi, hz0, hz1, hz2⟩ := info_parts infoO
  refine wpList_append_own _ hgd s x 22 ho w0.heap.size 31 i0 _ 3 32 Try.underlying22 hi hz0 hz1 hz2 rfl (by decide) fv os.length _ hs h.row ⟨g, 0, none⟩ 1 1 m.cells hx rfl
    (fun j u hj => ?_) (fun u hu => ?_) (by unfold maxLen; omega) (by omega) h.k.size ?_
  · have hadd : (⟨g, 0, none⟩ : Addr).add j = ⟨g, j, none⟩ := by unfold Addr.add; split <;> simp_all
    have hjl : j < 3 := (List.getElem?_eq_some_iff.1 hj).1
    rw [hadd, hn j hjl]; exact hj
  · simp only [OpM.cells, List.mem_cons, List.not_mem_nil, or_false] at hu
    rcases hu with rfl | rfl | rfl <;> rfl
  · intro v' w' h2 h3 _
    refine k v' w' ?_
    obtain ⟨v, hv, hvl⟩ := h.wr
    refine ⟨⟨v, ⟨(h3.block bw hv.blk.lt fun e => row3_apart h.row hv.blk (by decide) e.symm).trans hv.blk, hv.own.kept fun j hj => h3.block j (hv.own.lt j hj) fun e => rows_apart h.row hv.own j e.symm hj⟩, hvl⟩, ?_, h.k.grown h3 h.k.size (fun j hj => (h.row.lt j hj).1), h.lw⟩
    rw [List.length_append, List.flatMap_append]
    simpa using h2
theorem PB.cut (h : PB w0 bw fv os l w) : ∃ fa C, fv = .slice fa os.length C ∧ (0 < os.length → ∃ cb co, fa = some ⟨cb, co, none⟩ ∧ cb < w.heap.size ∧ ∀ i (hi : i < os.length), w.cell? ⟨cb, co + i * 3, none⟩ = some (.int .u8 ((os[i]).k.toNat : Int)) ∧ w.cell? ⟨cb, co + i * 3 + 1, none⟩ = some (.int .i64 (os[i]).n) ∧ w.cell? ⟨cb, co + i * 3 + 2, none⟩ = some (.string (os[i]).s)) := by
  obtain ⟨hl, ⟨rfl, h0⟩ | ⟨g, cap, cur, rfl, hge, hgg, hn, hm, hcs, htk⟩⟩ := h.row
  · exact ⟨none, 0, by rw [h0], fun h1 => by omega⟩
  · refine ⟨_, _, rfl, fun _ => ⟨g, 0, rfl, (Array.getElem?_eq_some_iff.1 hgg).1, fun i hi => ?_⟩⟩
    have key : ∀ j u, j < 3 → (os[i]).cells[j]? = some u → w.cell? ⟨g, 0 + i * 3 + j, none⟩ = some u := by
      intro j u hj hu
      have := World.ownsRow.cells (g := g) (⟨hl, .inr ⟨g, cap, cur, rfl, hge, hgg, hn, hm, hcs, htk⟩⟩ : w.ownsRow w0.heap.size 31 3 (.slice (some ⟨g, 0, none⟩) os.length cap) os.length (os.flatMap OpM.cells)) rfl (i * 3 + j) u (by rw [cells_get os i j hi hj]; exact hu)
      have hadd : (⟨g, 0, none⟩ : Addr).add (i * 3 + j) = ⟨g, i * 3 + j, none⟩ := by unfold Addr.add; split <;> simp_all
      rw [hadd] at this
      rw [Nat.zero_add]; exact this
    exact ⟨key 0 _ (by omega) rfl, key 1 _ (by omega) rfl, key 2 _ (by omega) rfl⟩
end
end Go.Proofs.Ytnfcgjefliccgaa
