/- A row of bytes that the call owns, told by its cells, with a mark that no cell of its spare lies in: what []byte(s) makes, and what append makes of it. -/
import Derived.ArgAppend
import Derived.Lib.ConvBytes
import Derived.Deep.Upon
import Derived.Test.YtkemgccfdnbmpaaDoorRefB
namespace Go.Proofs.YtkemgccfdnbmpaaDoor
open Go.RowKit

/-- v holds the bytes l in a row of its own, from block B on; what may be written behind them isn't marked. -/
structure OwnB (w : World) (B : Nat) (v : Value) (l : List UInt8) : Prop where
  ex : (v = .slice none 0 0 ∧ l = []) ∨ ∃ (g cap : Nat) (cur : Array Value) (fz : Nat × Nat), v = .slice (some ⟨g, 0, none⟩) l.length cap ∧ B ≤ g ∧ w.heap[g]? = some (.cells cur 5 fz) ∧ cur.size = cap ∧ l.length ≤ cap ∧ (fz.2 ≤ l.length ∨ cap ≤ fz.1) ∧ ∀ j, j < l.length → cur[j]? = (l.map yc)[j]?

theorem OwnB.of_row {w : World} {B : Nat} {v : Value} {l : List UInt8} (h : w.ownsRow B 5 1 v l.length (l.map yc)) : OwnB w B v l := by
  obtain ⟨_, ⟨rfl, h0⟩ | ⟨g, cap, cur, rfl, hb, hg, hn, _, hs, ht⟩⟩ := h
  · exact ⟨.inl ⟨rfl, List.eq_nil_of_length_eq_zero h0⟩⟩
  · refine ⟨.inr ⟨g, cap, cur, (0, 0), rfl, hb, hg, by omega, hn, .inl (Nat.zero_le _), fun j hj => ?_⟩⟩
    rw [← ht, List.getElem?_take_of_lt (by omega), Array.getElem?_toList]

theorem OwnB.lt {w : World} {B : Nat} {v : Value} {l : List UInt8} (h : OwnB w B v l) : ∀ k, v.ownBlock = some k → B ≤ k ∧ k < w.heap.size := by
  intro k hk
  obtain ⟨rfl, _⟩ | ⟨g, cap, cur, fz, rfl, hb, hg, _⟩ := h.ex
  · cases hk
  · obtain rfl : g = k := by simpa [Value.ownBlock] using hk
    exact ⟨hb, (Array.getElem?_eq_some_iff.1 hg).1⟩

theorem OwnB.kept {w w' : World} {B : Nat} {v : Value} {l : List UInt8} (h : OwnB w B v l) (hk : ∀ k, k < w.heap.size → w'.heap[k]? = w.heap[k]?) : OwnB w' B v l := by
  obtain h0 | ⟨g, cap, cur, fz, rfl, hb, hg, r⟩ := h.ex
  · exact ⟨.inl h0⟩
  · exact ⟨.inr ⟨g, cap, cur, fz, rfl, hb, by rw [hk g (Array.getElem?_eq_some_iff.1 hg).1]; exact hg, r⟩⟩

theorem OwnB.alloc {w : World} {B : Nat} {v : Value} {l : List UInt8} (h : OwnB w B v l) (o : Obj) : OwnB (w.alloc o) B v l :=
  h.kept fun _ hk => heap_alloc_old w o hk

/-- What []byte(s) makes. -/
theorem OwnB.made (w : World) (B : Nat) (hB : B ≤ w.heap.size) (s : ByteArray) :
    OwnB (Lib.bytesWorld w 5 s) B (.slice (some ⟨w.heap.size, 0, none⟩) s.size (grownCap w s.size 0 5)) s.data.toList := by
  have hge := grownCap_ge w s.size 0 5
  have hsz : (Lib.bytesCells w 5 s).size = grownCap w s.size 0 5 := by
    have : s.data.size = s.size := rfl
    simp [Lib.bytesCells]; omega
  have hl : s.data.toList.length = s.size := data_len s
  refine ⟨.inr ⟨w.heap.size, grownCap w s.size 0 5, Lib.bytesCells w 5 s, _, by rw [hl], hB, Lib.bytesWorld_at_new w _ s, hsz, by omega, .inr (by rw [hsz]; exact Nat.le_refl _), fun j hj => ?_⟩⟩
  have : s.data.size = s.size := rfl
  rw [Lib.bytesCells, Array.getElem?_append_left (by simp; omega)]
  simp only [Array.getElem?_map, List.getElem?_map, Array.getElem?_toList]
  rfl

theorem below_cells {B b : Nat} (hb : B ≤ b) (vs : List Value) : ∀ (o : Nat) (a w : World), Below B a w → Below B a (w.setCells b o vs) := by
  induction vs with
  | nil => intro _ _ _ h; exact h
  | cons v r ih => intro o a w h; exact ih (o + 1) a _ (h.setCell (p := ⟨b, o, none⟩) hb v)

/-- Append of some bytes, lying in a row of their own, to such a row; other blocks stay. -/
theorem wpList_pushB {w w0 wk : World} {ops : Array Oper} {rest : List Oper} {o : Oper} {a : Act} {Q : Exit → Act → World → Prop} (hgd : o.guard = none) (s x : Operand)
    (ho : o.op = .call { callee := .builtin .append, args := #[s, x], argTypes := #[29, 29] }) (base : Nat) (v : Value) (l : List UInt8) (hs : a.eval s = v)
    (hO : Box (OwnB w base v l)) (g : Nat) (news : List UInt8) (hx : a.eval x = .slice (some ⟨g, 0, none⟩) news.length news.length)
    (hn : ∀ j, j < news.length → w.cell? ⟨g, j, none⟩ = (news.map yc)[j]?) (hlen : l.length + news.length ≤ 140737488355328) (hbase : base ≤ w.heap.size) (hB : Box (Below base w0 w)) (hK : Keep8 wk w)
    (h : ∀ v' w', Box (OwnB w' base v' (l ++ news)) → Box (Below base w0 w') → Keep8 wk w' → (∃ b n c, v' = .slice b n c ∧ n = (l ++ news).length) → wpList Tryd.prog ops Q rest (a.put o.dst v') w') : wpList Tryd.prog ops Q (o :: rest) a w := by
  obtain ⟨rfl, rfl⟩ | ⟨g0, cap, cur, fz, rfl, hb, hg, hcs, hn0, hfz, hcell⟩ := hO.out.ex
  · exact wpList_push2 hgd s x ho base _ [] hs ⟨World.ownsRow_nil w base 5 1⟩ g news hx hn hlen hbase hB hK fun v' w' h1 h2 h3 h4 => h v' w' ⟨OwnB.of_row h1.out⟩ h2 h3 h4
  · obtain ⟨i0, hi, hz0, hz1, hz2⟩ := info_parts info5
    have hlt : g0 < w.heap.size := (Array.getElem?_eq_some_iff.1 hg).1
    have hnews : ∀ j u, (news.map yc)[j]? = some u → w.cell? ((⟨g, 0, none⟩ : Addr).add j) = some u := fun j u hj => by
      have hadd : (⟨g, 0, none⟩ : Addr).add j = ⟨g, j, none⟩ := by unfold Addr.add; split <;> simp_all
      have hjl : j < news.length := by
        rcases Nat.lt_or_ge j news.length with h | h
        · exact h
        · rw [List.getElem?_eq_none (by simpa using h)] at hj; cases hj
      rw [hadd, hn j hjl]; exact hj
    have hone : ∀ u ∈ news.map yc, u.oneCell' = true := fun u hu => by
      simp only [List.mem_map] at hu; obtain ⟨y, _, rfl⟩ := hu; rfl
    refine wpList_append_arg w hgd s x 29 ho 5 i0 (.int .u8 0) 1 1 Tryd.underlying29 hi hz0 hz1 hz2 rfl (by decide) g0 0 l.length cap (l.map yc) hs (by simp) (fun j u hj => ?_) ⟨g, 0, none⟩ news.length news.length (news.map yc) hx (by simp) hnews hone
      (fun hr j hj => ?_) (by unfold maxLen; omega) (by omega) (fun hr => ?_) (fun hr v' w' hown hgr => ?_)
    · have hjl : j < l.length := by
        rcases Nat.lt_or_ge j l.length with h | h
        · exact h
        · rw [List.getElem?_eq_none (by simpa using h)] at hj; cases hj
      rw [Nat.zero_add, cell_of_row w g0 j cur _ fz hg, hcell j hjl]; exact hj
    · simp only [List.length_map] at hj
      rw [cell_of_row w g0 _ cur _ fz hg]
      refine ⟨by simp; omega, ?_⟩
      obtain ⟨lo, hi'⟩ := fz
      simp only at hfz
      simp only [World.frozen?, hg, Bool.and_eq_false_iff, decide_eq_false_iff_not]
      omega
    · have hK' : Keep8 wk (w.setCells g0 (0 + l.length * 1) (news.map yc)) := ⟨fun b cs t ht hbk => by
        have hb1 := hK.out b cs t ht hbk
        refine (World.heap_setCells_other w g0 _ _ hb1.lt fun e => ?_).trans hb1
        subst e
        unfold Blk at hb1
        rw [hg] at hb1
        simp at hb1
        exact ht hb1.2.1.symm⟩
      have hB' : Box (Below base w0 (w.setCells g0 (0 + l.length * 1) (news.map yc))) := ⟨below_cells hb _ _ _ _ hB.out⟩
      have kb := World.keptBut_setCells g0 (may := fun p => ∃ j, j < news.length ∧ p = .cell g0 (0 + l.length * 1 + j)) (news.map yc) (0 + l.length * 1) w (fun j hj => ⟨j, by simpa using hj, rfl⟩)
      have hin := World.cell?_setCells_in g0 (news.map yc) (0 + l.length * 1) w (fun j hj => by
        simp only [List.length_map] at hj
        rw [cell_of_row w g0 _ cur _ fz hg]; simp; omega)
      have hk := kb.2.2 g0 hlt
      rw [hg] at hk
      generalize hw' : w.setCells g0 (0 + l.length * 1) (news.map yc) = w' at hk hin hB' hK' kb ⊢
      obtain ⟨cur', hg', hs', hc'⟩ : ∃ cur', w'.heap[g0]? = some (.cells cur' 5 fz) ∧ cur'.size = cur.size ∧ ∀ j, j < l.length → cur'[j]? = cur[j]? := by
        cases hq : w'.heap[g0]? with
        | none => rw [hq] at hk; simp at hk
        | some ob =>
          rw [hq] at hk
          cases ob with
          | cells c t fr =>
            obtain ⟨rfl, rfl, h1, h2⟩ := hk
            exact ⟨c, rfl, h1, fun j hj => h2 j (by rintro ⟨i, _, e⟩; simp at e; omega)⟩
          | _ => simp at hk
      refine h _ w' ⟨⟨.inr ⟨g0, cap, cur', fz, by rw [List.length_append], hb, hg', by omega, by rw [List.length_append]; exact hr, ?_, fun j hj => ?_⟩⟩⟩ hB' hK' ⟨_, _, _, rfl, by rw [List.length_append]⟩
      · rw [List.length_append]; omega
      · rw [List.length_append] at hj
        by_cases hjl : j < l.length
        · rw [hc' j hjl, hcell j hjl, List.map_append, List.getElem?_append_left (by simpa using hjl)]
        · have h1 := hin (j - l.length) (by simp; omega)
          rw [cell_of_row w' g0 _ cur' _ fz hg', show 0 + l.length * 1 + (j - l.length) = j by omega] at h1
          rw [h1, List.map_append, List.getElem?_append_right (by simp; omega)]
          rw [← List.getElem?_eq_getElem]
          simp only [List.length_map]
    · refine h v' w' ⟨OwnB.of_row ?_⟩ ⟨hB.out.grown hgr hbase (fun k hk => by cases hk)⟩ ⟨fun b cs t ht hbk => ?_⟩ ?_
      · rw [List.length_append, List.map_append]
        obtain ⟨q1, q2⟩ := hown
        refine ⟨q1, q2.imp id fun ⟨g2, c2, cu, a1, a2, a3⟩ => ⟨g2, c2, cu, a1, Nat.le_trans hbase a2, a3⟩⟩
      · have hb1 := hK.out b cs t ht hbk
        exact (hgr.block b hb1.lt (by simp)).trans hb1
      · obtain ⟨_, ⟨rfl, h0⟩ | ⟨g2, c2, cur2, rfl, _⟩⟩ := hown
        · exact ⟨_, _, _, rfl, by rw [List.length_append]; exact h0.symm⟩
        · exact ⟨_, _, _, rfl, by rw [List.length_append]⟩
end Go.Proofs.YtkemgccfdnbmpaaDoor
