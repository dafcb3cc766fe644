/- Rows of texts that are made and appended to. -/
import Derived.Test.YtdnhpldcnmbncaaDoorTrA
import Derived.Deep.Upon
namespace Go.Proofs.YtdnhpldcnmbncaaDoor
open Go Go.RowKit

theorem info_s : (Tryd.prog.info? 9).map (fun i => (i.zero, i.size, i.bytes)) = some (some (.string ⟨#[]⟩), 1, 16) := by kernel_rfl
/-- v owns a row of these texts, in a block from B on. -/
def TxR (B : Nat) (w : World) (v : Value) (ids : List ByteArray) : Prop := w.ownsRow B 9 1 v ids.length (ids.map Value.string)
theorem TxR.shape {B : Nat} {w : World} {v : Value} {ids : List ByteArray} (h : TxR B w v ids) : ∃ a c, v = .slice a ids.length c := by
  obtain ⟨_, ⟨rfl, h0⟩ | ⟨g, cap, cur, rfl, _⟩⟩ := h
  · exact ⟨none, 0, by rw [h0]⟩
  · exact ⟨_, _, rfl⟩
theorem TxR.parts {B : Nat} {w : World} {v : Value} {ids : List ByteArray} (h : TxR B w v ids) : PartsAt w v ids := by
  have hh := h
  obtain ⟨hx, ⟨rfl, h0⟩ | ⟨g, cap, cur, rfl, b1, hg, b2⟩⟩ := h
  · obtain rfl : ids = [] := List.length_eq_zero_iff.1 h0
    exact ⟨none, 0, rfl, fun h => absurd h (Nat.lt_irrefl 0)⟩
  · refine ⟨_, cap, rfl, fun h0 => ⟨g, 0, rfl, (Array.getElem?_eq_some_iff.1 hg).1, fun i hi => ?_⟩⟩
    have := World.ownsRow.cells (g := g) hh rfl i (.string (ids.getD i ByteArray.empty)) (by simp [hi, List.getD])
    have hadd : (⟨g, 0, none⟩ : Addr).add i = ⟨g, 0 + i, none⟩ := by unfold Addr.add; split <;> simp_all
    rw [hadd] at this; exact this
theorem TxR.here {B : Nat} {w w' : World} {v : Value} {ids : List ByteArray} (h : TxR B w v ids) (hb : Below w.heap.size w w') : TxR B w' v ids := by
  obtain ⟨hx, h0 | ⟨g, cap, cur, rfl, b1, hg, b2⟩⟩ := h
  · exact ⟨hx, .inl h0⟩
  · exact ⟨hx, .inr ⟨g, cap, cur, rfl, b1, (hb.block g (Array.getElem?_eq_some_iff.1 hg).1).trans hg, b2⟩⟩
theorem TxR.base {B C : Nat} {w : World} {v : Value} {ids : List ByteArray} (h : TxR B w v ids) (hC : C ≤ B) : TxR C w v ids := by
  obtain ⟨hx, h0 | ⟨g, cap, cur, rfl, b1, hg, b2⟩⟩ := h
  · exact ⟨hx, .inl h0⟩
  · exact ⟨hx, .inr ⟨g, cap, cur, rfl, Nat.le_trans hC b1, hg, b2⟩⟩
/-- What an append of texts leaves. -/
structure PushedT (B : Nat) (w : World) (v : Value) (ids : List ByteArray) (v' : Value) (w' : World) : Prop where
  row : TxR B w' v' ids
  chg : Pk.Chg (fun i => v.ownBlock = some i) w w'
  place : ∀ k, v'.ownBlock = some k → v.ownBlock = some k ∨ w.heap.size ≤ k
theorem TxR.own {B : Nat} {w : World} {v : Value} {ids : List ByteArray} (h : TxR B w v ids) (k : Nat) (hk : v.ownBlock = some k) : B ≤ k ∧ k < w.heap.size := World.ownsRow.lt h k hk
theorem TxR.of_row {B : Nat} {w : World} {v : Value} {ids : List ByteArray} (h : Pk.Row w 9 1 v ids.length (ids.map Value.string)) (hB : ∀ k, v.ownBlock = some k → B ≤ k) : TxR B w v ids := by
  obtain ⟨hx, h0 | ⟨g, cap, cur, rfl, b1, b2⟩⟩ := h
  · exact ⟨hx, .inl h0⟩
  · exact ⟨hx, .inr ⟨g, cap, cur, rfl, hB g rfl, b2⟩⟩
theorem push_texts (B : Nat) (w : World) (ty : TypeId) (v : Value) (ids zs : List ByteArray) (h : TxR B w v ids) (hB : B ≤ w.heap.size) (a : Option Addr) (m c : Nat) (hm : zs.length = m) (hz : PartsAt w (.slice a m c) zs) (hlen : (ids.length + m) * 16 ≤ 140737488355328) :
    ∃ v' w', (Builtin.append_ #[23, 23] ty #[v, .slice a m c]).run Tryd.prog w = .ok v' w' ∧ PushedT B w v (ids ++ zs) v' w' := by
  obtain ⟨i0, hi, hz0, hz1, hz2⟩ := info_parts info_s
  subst hm
  obtain ⟨a2, c2, e2, hh⟩ := hz.ex
  cases e2
  by_cases h0 : 0 < zs.length
  · obtain ⟨blk, off, rfl, hb, hc⟩ := hh h0
    obtain ⟨v', w', hr, hp⟩ := Pk.push_row (P := Tryd.prog) w 23 ty 9 i0 (.string ⟨#[]⟩) 1 16 Tryd.underlying23 hi hz0 hz1 hz2 rfl (by decide) v ids.length (ids.map Value.string) (TxR.base h (Nat.zero_le _)) ⟨blk, off, none⟩ zs.length c (zs.map Value.string) (by simp)
      (fun j u hj => by
        have hjl : j < zs.length := by
          rcases Nat.lt_or_ge j zs.length with h | h
          · exact h
          · rw [List.getElem?_eq_none (by simpa using h)] at hj; cases hj
        have hadd : (⟨blk, off, none⟩ : Addr).add j = ⟨blk, off + j, none⟩ := by
          unfold Addr.add
          split
          · next h => subst h; rfl
          · rfl
        rw [hadd, hc j hjl, ← hj]
        simp [List.getD, hjl])
      (fun u hu => by simp only [List.mem_map] at hu; obtain ⟨y, _, rfl⟩ := hu; rfl) (by unfold maxLen; omega) hlen
    refine ⟨v', w', hr, ⟨TxR.of_row (by rw [List.length_append, List.map_append]; exact hp.row) fun k hk => ?_, hp.chg, hp.place⟩⟩
    rcases hp.place k hk with h1 | h1
    · exact (h.own k h1).1
    · omega
  · obtain rfl : zs = [] := List.length_eq_zero_iff.1 (by omega)
    obtain ⟨a3, c3, rfl⟩ := h.shape
    have hle : ids.length ≤ c3 := by
      obtain ⟨_, ⟨h1, h2⟩ | ⟨g, cap, cur, h1, _, _, h3, _⟩⟩ := h
      · omega
      · cases h1; exact h3
    have hs : Src Tryd.prog i0.size 23 (.slice a 0 c) 0 [] w := by
      cases a with
      | none => exact Src.ofNil w Tryd.underlying23 c
      | some ad => exact Src.ofSlice w Tryd.underlying23 ad 0 c [] (by simp) (fun j u hu => by simp at hu) (fun u hu => by cases hu)
    have hr := run_append_nothing (P := Tryd.prog) w 23 23 ty 9 i0 Tryd.underlying23 hi a3 ids.length c3 hle (.slice a 0 c) hs
    exact ⟨_, w, hr, ⟨by rw [List.append_nil]; exact h, Pk.Chg.refl _ _, fun k hk => .inl hk⟩⟩
section
variable {w : World} {o : Oper} {a : Act} {Q : Exit → Act → World → Prop}
theorem wp_pushT {K : Act → World → Prop} (s x : Operand) (ho : o.op = .call { callee := .builtin .append, args := #[s, x], argTypes := #[23, 23] }) (B : Nat) (v : Value) (ids zs : List ByteArray) (hs : a.eval s = v)
    (h : TxR B w v ids) (hB : B ≤ w.heap.size) (ad : Option Addr) (m c : Nat) (hx : a.eval x = .slice ad m c) (hm : zs.length = m) (hz : PartsAt w (.slice ad m c) zs) (hlen : (ids.length + m) * 16 ≤ 140737488355328)
    (k : ∀ v' w', PushedT B w v (ids ++ zs) v' w' → K (a.put o.dst v') w') : o.wp Tryd.prog a w K Q := by
  obtain ⟨v', w', hr, hp⟩ := push_texts B w o.type v ids zs h hB ad m c hm hz hlen
  unfold Oper.wp execOp
  simp only [ho, resolve, invoke, builtin, Sem.run_bind, Sem.run_pure, Result.andThen_ok, List.map_toArray, List.map_cons, List.map_nil, hs, hx, hr]
  exact k _ _ hp
theorem wpList_pushT {ops : Array Oper} {rest : List Oper} (hgd : o.guard = none) (s x : Operand) (ho : o.op = .call { callee := .builtin .append, args := #[s, x], argTypes := #[23, 23] }) (B : Nat) (v : Value) (ids zs : List ByteArray) (hs : a.eval s = v)
    (h : TxR B w v ids) (hB : B ≤ w.heap.size) (ad : Option Addr) (m c : Nat) (hx : a.eval x = .slice ad m c) (hm : zs.length = m) (hz : PartsAt w (.slice ad m c) zs) (hlen : (ids.length + m) * 16 ≤ 140737488355328)
    (k : ∀ v' w', PushedT B w v (ids ++ zs) v' w' → wpList Tryd.prog ops Q rest (a.put o.dst v') w') : wpList Tryd.prog ops Q (o :: rest) a w :=
  wpList_plain hgd fun _ hK => wp_pushT s x ho B v ids zs hs h hB ad m c hx hm hz hlen fun v' w' hp => hK _ _ (k v' w' hp)
end
theorem TxR.nil (B : Nat) (w : World) : TxR B w (.slice none 0 0) [] := World.ownsRow_nil _ _ _ _
theorem PushedT.below {B : Nat} {w w' : World} {v v' : Value} {ids zs : List ByteArray} (hp : PushedT B w v zs v' w') (h : TxR B w v ids) : Pk.Chg (fun i => B ≤ i) w w' := hp.chg.mono fun i _ e => (h.own i e).1
theorem PushedT.bel {w0 w w' : World} {v v' : Value} {ids zs : List ByteArray} (hp : PushedT w0.heap.size w v zs v' w') (hB : Below w0.heap.size w0 w) (h : TxR w0.heap.size w v ids) : Below w0.heap.size w0 w' := hB.trans ((hp.below h).below hB.size fun _ h => h)
theorem TxR.chg {S : Nat → Prop} {B : Nat} {w w' : World} {v : Value} {ids : List ByteArray} (h : TxR B w v ids) (hc : Pk.Chg S w w') (hn : ∀ k, v.ownBlock = some k → ¬ S k) : TxR B w' v ids := by
  obtain ⟨hx, h0 | ⟨g, cap, cur, rfl, b1, hg, b2⟩⟩ := h
  · exact ⟨hx, .inl h0⟩
  · exact ⟨hx, .inr ⟨g, cap, cur, rfl, b1, (hc.block g (Array.getElem?_eq_some_iff.1 hg).1 (hn g rfl)).trans hg, b2⟩⟩
end Go.Proofs.YtdnhpldcnmbncaaDoor
