/- PkA PkB PkC PkD PkE PkF, in one text, in a namespace of their own. -/
import Derived.Test.YtdjppgmaokcgiaaDoorRows
import Derived.Test.YtdjppgmaokcgiaaDoorQi
import Derived.WalkKit
import Derived.WalkSpells
import Derived.WalkLawsBesides
import Derived.Deep.QuietTactic
import Derived.Deep.RegionLaw
import Derived.BigQuiet
import Derived.IntWalk
import Derived.Handy
import Derived.Laws.BitsAllLaws
import Derived.Laws.BytesArg
import Derived.Lib.AppendStr
import Derived.Lib.ConvBytes
import Derived.KernelRfl
/- Base for package pack: a block known whole, a row of bytes that is owned, numbers as bytes; append onto such a row, told with where the new row lies. -/
namespace Go.Proofs.YtdjppgmaokcgiaaDoor.Pk
open Go.RowKit

/-- A fact in a box that nothing looks into. -/
structure Box (p : Prop) : Prop where
  out : p
theorem u_eq {k : IntKind} {a b : Int} (h : a = b) : Value.int k a = Value.int k b := by rw [h]
/-- A byte's number; its cell. -/
def Y (x : UInt8) : Int := (x.toNat : Int)
def yc (x : UInt8) : Value := .int .u8 (Y x)
theorem Y_back (l : List UInt8) : strOfNums (l.map Y) = ⟨l.toArray⟩ := by
  unfold strOfNums
  have : ((l.map Y).map fun n => UInt8.ofNat n.toNat) = l := by
    rw [List.map_map]
    conv => rhs; rw [← List.map_id l]
    apply List.map_congr_left
    intro x _
    simp [Y]
  rw [this]
theorem data_len (r : ByteArray) : r.data.toList.length = r.size := by rw [Array.length_toList]; rfl
theorem info5 : (Tryd.prog.info? 5).map (fun i => (i.zero, i.size, i.bytes)) = some (some (.int .u8 0), 1, 1) := by kernel_rfl

/-- A block known whole. -/
def Blk (w : World) (b : Nat) (cs : List Value) (t : TypeId) : Prop := w.heap[b]? = some (.cells cs.toArray t (0, 0))
theorem Blk.cell {w : World} {b : Nat} {cs : List Value} {t : TypeId} (h : Blk w b cs t) (i : Nat) : w.cell? ⟨b, i, none⟩ = cs[i]? := by
  rw [cell_of_row w b i _ t _ h]; simp
theorem Blk.free {w : World} {b : Nat} {cs : List Value} {t : TypeId} (h : Blk w b cs t) (i : Nat) : w.frozen? ⟨b, i, none⟩ = false := frozen_of_row w b i _ t h
theorem Blk.lt {w : World} {b : Nat} {cs : List Value} {t : TypeId} (h : Blk w b cs t) : b < w.heap.size := by
  rcases Nat.lt_or_ge b w.heap.size with h' | h'
  · exact h'
  · unfold Blk at h; rw [Array.getElem?_eq_none h'] at h; cases h
theorem Blk.setCell {w : World} {b : Nat} {cs : List Value} {t : TypeId} (h : Blk w b cs t) (i : Nat) (v : Value) : Blk (w.setCell ⟨b, i, none⟩ v) b (cs.set i v) t := by
  have := heap_setCell_same w b i cs.toArray t v h
  unfold Blk; rw [this]; simp
theorem Blk.new (w : World) (cs : List Value) (t : TypeId) : Blk (w.alloc (.cells cs.toArray t)) w.heap.size cs t := heap_alloc_new w _

/-- Of the blocks that were there only some have changed. -/
structure Chg (S : Nat → Prop) (w w' : World) : Prop where
  os : w'.os = w.os
  tape : w'.tape = w.tape
  output : w'.output = w.output
  size : w.heap.size ≤ w'.heap.size
  block : ∀ k, k < w.heap.size → ¬ S k → w'.heap[k]? = w.heap[k]?
theorem Chg.refl (S : Nat → Prop) (w : World) : Chg S w w := ⟨rfl, rfl, rfl, Nat.le_refl _, fun _ _ _ => rfl⟩
theorem Chg.trans {S T : Nat → Prop} {a b c : World} (h : Chg S a b) (k : Chg T b c) (hT : ∀ i, i < a.heap.size → T i → S i) : Chg S a c :=
  ⟨k.os.trans h.os, k.tape.trans h.tape, k.output.trans h.output, Nat.le_trans h.size k.size, fun i hi hn => (k.block i (Nat.lt_of_lt_of_le hi h.size) fun ht => hn (hT i hi ht)).trans (h.block i hi hn)⟩
theorem Chg.mono {S T : Nat → Prop} {a b : World} (h : Chg S a b) (hT : ∀ i, i < a.heap.size → S i → T i) : Chg T a b :=
  ⟨h.os, h.tape, h.output, h.size, fun i hi hn => h.block i hi fun hs => hn (hT i hi hs)⟩
theorem Chg.drew {S : Nat → Prop} {a w : World} (h : Chg S a w) : Chg S a w.drew := ⟨h.os, h.tape, h.output, h.size, h.block⟩
theorem Chg.alloc {S : Nat → Prop} {a w : World} (h : Chg S a w) (o : Obj) : Chg S a (w.alloc o) :=
  ⟨h.os, h.tape, h.output, Nat.le_trans h.size (by simp), fun i hi hn => (Below.heap_alloc _ _ _ (Nat.lt_of_lt_of_le hi h.size)).trans (h.block i hi hn)⟩
theorem Chg.setCell {S : Nat → Prop} {a w : World} (h : Chg S a w) {p : Addr} (hp : S p.block) (u : Value) : Chg S a (w.setCell p u) :=
  ⟨h.os, h.tape, h.output, by simpa [World.setCell] using h.size, fun i hi hn => (Below.heap_setCell _ _ _ _ (fun e => hn (by rw [e]; exact hp))).trans (h.block i hi hn)⟩
theorem Chg.below {S : Nat → Prop} {B : Nat} {w w' : World} (h : Chg S w w') (hB : B ≤ w.heap.size) (hS : ∀ i, S i → B ≤ i) : Below B w w' :=
  ⟨h.os, h.tape, h.output, h.size, fun k hk => h.block k (Nat.lt_of_lt_of_le hk hB) fun hs => by have := hS k hs; omega⟩
theorem Chg.of_below {B : Nat} {w w' : World} (h : Below B w w') : Chg (fun k => B ≤ k) w w' := ⟨h.os, h.tape, h.output, h.size, fun k _ hn => h.block k (by omega)⟩
theorem Chg.blk {S : Nat → Prop} {w w' : World} {b : Nat} {cs : List Value} {t : TypeId} (h : Chg S w w') (hb : Blk w b cs t) (hn : ¬ S b) : Blk w' b cs t := (h.block b hb.lt hn).trans hb

/-- v owns a row of these bytes. -/
def Own (w : World) (v : Value) (l : List UInt8) : Prop := w.ownsRow 0 5 1 v l.length (l.map yc)
theorem Own.nil (w : World) : Own w (.slice none 0 0) [] := World.ownsRow_nil _ _ _ _
theorem Own.shape {w : World} {v : Value} {l : List UInt8} (h : Own w v l) : ∃ a c, v = .slice a l.length c := by
  obtain ⟨_, ⟨rfl, h0⟩ | ⟨g, cap, cur, rfl, _⟩⟩ := h
  · exact ⟨none, 0, by rw [h0]⟩
  · exact ⟨_, _, rfl⟩
theorem Own.lt {w : World} {v : Value} {l : List UInt8} (h : Own w v l) (k : Nat) (hk : v.ownBlock = some k) : k < w.heap.size := (World.ownsRow.lt h k hk).2
theorem Own.apart {w : World} {v : Value} {l : List UInt8} {b : Nat} {cs : List Value} {t : TypeId} (h : Own w v l) (hb : Blk w b cs t) (ht : t ≠ 5) : v.ownBlock ≠ some b := by
  intro e
  obtain ⟨_, ⟨rfl, h0⟩ | ⟨g, cap, cur, rfl, _, hg, _⟩⟩ := h
  · cases e
  · obtain rfl : g = b := by simpa [Value.ownBlock] using e
    unfold Blk at hb
    rw [hg] at hb
    simp at hb
    exact ht hb.2.symm
theorem Own.kept {w w' : World} {v : Value} {l : List UInt8} (h : Own w v l) (hk : ∀ k, v.ownBlock = some k → w'.heap[k]? = w.heap[k]?) : Own w' v l := by
  obtain ⟨h1, h0 | ⟨g, cap, cur, rfl, a1, hg, a2⟩⟩ := h
  · exact ⟨h1, .inl h0⟩
  · exact ⟨h1, .inr ⟨g, cap, cur, rfl, a1, (hk g rfl).trans hg, a2⟩⟩
theorem Own.chg {S : Nat → Prop} {w w' : World} {v : Value} {l : List UInt8} (h : Own w v l) (hc : Chg S w w') (hn : ∀ k, v.ownBlock = some k → ¬ S k) : Own w' v l :=
  h.kept fun k hk => hc.block k (h.lt k hk) (hn k hk)

/-- What an append onto v leaves. -/
structure Pushed (w : World) (v : Value) (l : List UInt8) (v' : Value) (w' : World) : Prop where
  own : Own w' v' l
  chg : Chg (fun k => v.ownBlock = some k) w w'
  place : ∀ k, v'.ownBlock = some k → v.ownBlock = some k ∨ w.heap.size ≤ k
theorem chg_of_grown {w w' : World} {v : Value} (h : w.grownBy w' v.ownBlock) : Chg (fun k => v.ownBlock = some k) w w' := ⟨h.os, h.tape, h.output, h.size, fun k hk hn => h.block k hk fun e => hn e.symm⟩

theorem push_str (w : World) (ty : TypeId) (v : Value) (l : List UInt8) (s : ByteArray) (h : Own w v l) (hlen : l.length + s.size ≤ 70368744177664) :
    ∃ v' w', (Builtin.append_ #[44, 9] ty #[v, .string s]).run Tryd.prog w = .ok v' w' ∧ Pushed w v (l ++ s.data.toList) v' w' := by
  obtain ⟨i0, hi, hz0, hz1, hz2⟩ := info_parts info5
  have e : (l ++ s.data.toList).length = l.length + s.size := by rw [List.length_append, data_len]
  have em : (l ++ s.data.toList).map yc = l.map yc ++ Lib.strCells s := by rw [List.map_append]; rfl
  have hl1 : l.length + s.size ≤ maxLen := by unfold maxLen; omega
  obtain ⟨v', w', hr, h2, h3, _⟩ := Lib.run_append_own_string (P := Tryd.prog) w 0 44 9 ty 5 i0 Tryd.underlying44 Tryd.underlying9 hi hz0 hz1 hz2 v l.length _ h s hl1 (by omega) (Nat.zero_le _)
  refine ⟨v', w', hr, ⟨by unfold Own; rw [e, em]; exact h2, chg_of_grown h3, fun k hk => ?_⟩⟩
  obtain ⟨hxl, ⟨rfl, h0⟩ | ⟨g, cap, cur, rfl, _, hg, hnc, _, hcs, _⟩⟩ := h
  · have hnil : l = [] := List.eq_nil_of_length_eq_zero h0
    subst hnil
    obtain ⟨v2, w2, hr2, h4, _, _⟩ := Lib.run_append_own_string (P := Tryd.prog) w w.heap.size 44 9 ty 5 i0 Tryd.underlying44 Tryd.underlying9 hi hz0 hz1 hz2 (.slice none 0 0) 0 [] (World.ownsRow_nil _ _ _ _) s (by simpa using hl1) (by simp at hlen; omega) (Nat.le_refl _)
    rw [hr] at hr2
    cases hr2
    exact .inr (World.ownsRow.lt h4 k hk).1
  · by_cases hroom : l.length + s.size ≤ cap
    · have hr2 := Lib.run_append_room_string (P := Tryd.prog) w 44 9 ty 5 i0 Tryd.underlying44 Tryd.underlying9 hi hz1 g l.length cap cur hg s hroom (by omega)
      rw [hr] at hr2
      cases hr2
      exact .inl hk
    · have hr2 := Lib.run_append_grow_string (P := Tryd.prog) w 44 9 ty 5 i0 (.int .u8 0) Tryd.underlying44 Tryd.underlying9 hi hz0 ⟨g, 0, none⟩ l.length cap (l.map yc) (by rw [hz1]; simp) (World.ownsRow.cells (g := g) ⟨hxl, .inr ⟨g, cap, cur, rfl, by assumption, hg, hnc, by assumption, hcs, by assumption⟩⟩ rfl) s (by omega) (by omega) (by rw [hz2]; exact growslice_fits (by omega) (by omega))
      rw [hr] at hr2
      cases hr2
      simp [Value.ownBlock] at hk
      exact .inr (by omega)

theorem push_bytes (w : World) (ty : TypeId) (v : Value) (l news : List UInt8) (g0 c0 : Nat) (h : Own w v l) (hn : ∀ j, j < news.length → w.cell? ⟨g0, j, none⟩ = (news.map yc)[j]?) (hlen : l.length + news.length ≤ 70368744177664) :
    ∃ v' w', (Builtin.append_ #[44, 44] ty #[v, .slice (some ⟨g0, 0, none⟩) news.length c0]).run Tryd.prog w = .ok v' w' ∧ Pushed w v (l ++ news) v' w' := by
  obtain ⟨i0, hi, hz0, hz1, hz2⟩ := info_parts info5
  have hl1 : l.length + news.length ≤ maxLen := by unfold maxLen; omega
  have c1 : ∀ j u, (news.map yc)[j]? = some u → w.cell? ((⟨g0, 0, none⟩ : Addr).add j) = some u := fun j u hj => by
    have hadd : (⟨g0, 0, none⟩ : Addr).add j = ⟨g0, j, none⟩ := by unfold Addr.add; split <;> simp_all
    have hjl : j < news.length := by
      rcases Nat.lt_or_ge j news.length with h | h
      · exact h
      · rw [List.getElem?_eq_none (by simpa using h)] at hj; cases hj
    rw [hadd, hn j hjl]; exact hj
  have c2 : ∀ u ∈ news.map yc, u.oneCell' = true := fun u hu => by
    simp only [List.mem_map] at hu; obtain ⟨y, _, rfl⟩ := hu; rfl
  obtain ⟨v', w', hr, h2, h3, _⟩ := run_append_own (P := Tryd.prog) w 0 44 ty 5 i0 (.int .u8 0) 1 1 Tryd.underlying44 hi hz0 hz1 hz2 rfl (by decide) v l.length _ h ⟨g0, 0, none⟩ news.length c0 (news.map yc) (by simp) c1 c2 hl1 (by omega) (Nat.zero_le _)
  refine ⟨v', w', hr, ⟨by unfold Own; rw [List.length_append, List.map_append]; exact h2, chg_of_grown h3, fun k hk => ?_⟩⟩
  obtain ⟨hxl, ⟨rfl, h0⟩ | ⟨g, cap, cur, rfl, b1, hg, hnc, b2, hcs, b3⟩⟩ := h
  · have hnil : l = [] := List.eq_nil_of_length_eq_zero h0
    subst hnil
    obtain ⟨v2, w2, hr2, h4, _, _⟩ := run_append_own (P := Tryd.prog) w w.heap.size 44 ty 5 i0 (.int .u8 0) 1 1 Tryd.underlying44 hi hz0 hz1 hz2 rfl (by decide) (.slice none 0 0) 0 [] (World.ownsRow_nil _ _ _ _) ⟨g0, 0, none⟩ news.length c0 (news.map yc) (by simp) c1 c2 (by simpa using hl1) (by simp at hlen; omega) (Nat.le_refl _)
    rw [hr] at hr2
    cases hr2
    exact .inr (World.ownsRow.lt h4 k hk).1
  · have hrow : w.heap[g]? = some (.cells cur 5 (0, 0)) := hg
    by_cases hroom : l.length + news.length ≤ cap
    · have hr2 := run_append_room_cells (P := Tryd.prog) w 44 ty 5 i0 Tryd.underlying44 hi g 0 l.length cap ⟨g0, 0, none⟩ news.length c0 (news.map yc) (by rw [hz1]; simp) c1 c2 hroom
        (fun j hj => by
          rw [cell_of_row w g _ cur _ (0, 0) hrow, hz1]
          simp only [List.length_map] at hj
          simp; omega) (fun j hj => frozen_of_row w g _ cur _ hrow)
      rw [hr] at hr2
      cases hr2
      exact .inl hk
    · obtain ⟨v2, w2, hr2, h4, _⟩ := run_append_arg_grows (P := Tryd.prog) w 44 ty 5 i0 (.int .u8 0) 1 1 Tryd.underlying44 hi hz0 hz1 hz2 rfl (by decide) ⟨g, 0, none⟩ l.length cap (l.map yc) (by simp) (World.ownsRow.cells (g := g) ⟨hxl, .inr ⟨g, cap, cur, rfl, b1, hg, hnc, b2, hcs, b3⟩⟩ rfl)
        ⟨g0, 0, none⟩ news.length c0 (news.map yc) (by simp) c1 (by omega) hl1 (by omega)
      rw [hr] at hr2
      cases hr2
      exact .inr (World.ownsRow.lt h4 k hk).1

section
variable {w : World} {o : Oper} {a : Act} {Q : Exit → Act → World → Prop}
theorem wp_pushS {K : Act → World → Prop} (s x : Operand)
    (ho : o.op = .call { callee := .builtin .append, args := #[s, x], argTypes := #[44, 9] }) (v : Value) (l : List UInt8) (hs : a.eval s = v)
    (hO : Own w v l) (str : ByteArray) (hx : a.eval x = .string str) (hlen : l.length + str.size ≤ 70368744177664)
    (h : ∀ v' w', Pushed w v (l ++ str.data.toList) v' w' → K (a.put o.dst v') w') : o.wp Tryd.prog a w K Q := by
  obtain ⟨v', w', hr, hp⟩ := push_str w o.type v l str hO hlen
  unfold Oper.wp execOp
  simp only [ho, resolve, invoke, builtin, Sem.run_bind, Sem.run_pure, Result.andThen_ok, List.map_toArray, List.map_cons, List.map_nil, hs, hx, hr]
  exact h _ _ hp
theorem wp_pushB {K : Act → World → Prop} (s x : Operand)
    (ho : o.op = .call { callee := .builtin .append, args := #[s, x], argTypes := #[44, 44] }) (v : Value) (l : List UInt8) (hs : a.eval s = v)
    (hO : Own w v l) (g0 c0 : Nat) (news : List UInt8) (hx : a.eval x = .slice (some ⟨g0, 0, none⟩) news.length c0) (hn : ∀ j, j < news.length → w.cell? ⟨g0, j, none⟩ = (news.map yc)[j]?) (hlen : l.length + news.length ≤ 70368744177664)
    (h : ∀ v' w', Pushed w v (l ++ news) v' w' → K (a.put o.dst v') w') : o.wp Tryd.prog a w K Q := by
  obtain ⟨v', w', hr, hp⟩ := push_bytes w o.type v l news g0 c0 hO hn hlen
  unfold Oper.wp execOp
  simp only [ho, resolve, invoke, builtin, Sem.run_bind, Sem.run_pure, Result.andThen_ok, List.map_toArray, List.map_cons, List.map_nil, hs, hx, hr]
  exact h _ _ hp
theorem wpList_pushS {ops : Array Oper} {rest : List Oper} (hgd : o.guard = none) (s x : Operand)
    (ho : o.op = .call { callee := .builtin .append, args := #[s, x], argTypes := #[44, 9] }) (v : Value) (l : List UInt8) (hs : a.eval s = v)
    (hO : Own w v l) (str : ByteArray) (hx : a.eval x = .string str) (hlen : l.length + str.size ≤ 70368744177664)
    (h : ∀ v' w', Pushed w v (l ++ str.data.toList) v' w' → wpList Tryd.prog ops Q rest (a.put o.dst v') w') : wpList Tryd.prog ops Q (o :: rest) a w :=
  wpList_plain hgd fun _ hK => wp_pushS s x ho v l hs hO str hx hlen fun v' w' hp => hK _ _ (h v' w' hp)
theorem wpList_pushB {ops : Array Oper} {rest : List Oper} (hgd : o.guard = none) (s x : Operand)
    (ho : o.op = .call { callee := .builtin .append, args := #[s, x], argTypes := #[44, 44] }) (v : Value) (l : List UInt8) (hs : a.eval s = v)
    (hO : Own w v l) (g0 c0 : Nat) (news : List UInt8) (hx : a.eval x = .slice (some ⟨g0, 0, none⟩) news.length c0) (hn : ∀ j, j < news.length → w.cell? ⟨g0, j, none⟩ = (news.map yc)[j]?) (hlen : l.length + news.length ≤ 70368744177664)
    (h : ∀ v' w', Pushed w v (l ++ news) v' w' → wpList Tryd.prog ops Q rest (a.put o.dst v') w') : wpList Tryd.prog ops Q (o :: rest) a w :=
  wpList_plain hgd fun _ hK => wp_pushB s x ho v l hs hO g0 c0 news hx hn hlen fun v' w' hp => hK _ _ (h v' w' hp)
end

/-- A number of n bytes, the greatest byte first. -/
def beN (x : Nat) : Nat → List UInt8
  | 0 => []
  | i + 1 => UInt8.ofNat (x / 2 ^ (8 * i) % 256) :: beN x i
theorem beN_length (x : Nat) : ∀ n, (beN x n).length = n
  | 0 => rfl
  | n + 1 => by simp [beN, beN_length x n]
theorem byte_new (w : World) (x : UInt8) : ∀ j, j < [x].length → (w.alloc (.cells #[Value.int .u8 (x.toNat : Int)] 5)).cell? ⟨w.heap.size, j, none⟩ = ([x].map yc)[j]? := by
  intro j hj
  obtain rfl : j = 0 := by simpa using hj
  rw [World.cell?_alloc_at _ _ _ _ rfl]; rfl
theorem own_text {w : World} {v : Value} {l : List UInt8} (h : Own w v l) : (convert 44 9 v).run Tryd.prog w = .ok (.string ⟨l.toArray⟩) w := by
  obtain ⟨hx, ⟨rfl, h0⟩ | ⟨g, cap, cur, rfl, b1, hg, hnc, b2, hcs, b3⟩⟩ := h
  · have hnil : l = [] := List.eq_nil_of_length_eq_zero h0
    subst hnil
    exact run_convert_bytes_nil (P := Tryd.prog) w 44 5 Tryd.underlying44 Tryd.underlying5 _ _ 9 Tryd.underlying9
  · have hcl : ∀ i, i < l.length → w.cell? ⟨g, 0 + i, none⟩ = some (.int .u8 ((l.map Y).getD i 0)) := by
      intro i hi
      have := World.ownsRow.cells (g := g) (⟨hx, .inr ⟨g, cap, cur, rfl, b1, hg, hnc, b2, hcs, b3⟩⟩ : w.ownsRow 0 5 1 (.slice (some ⟨g, 0, none⟩) l.length cap) l.length (l.map yc)) rfl i (yc (l[i])) (by simp [hi])
      rw [Nat.zero_add]
      have hadd : (⟨g, 0, none⟩ : Addr).add i = ⟨g, i, none⟩ := by unfold Addr.add; split <;> simp_all
      rw [hadd] at this
      rw [this]
      simp [yc, List.getD, hi]
    have := run_convert_bytes_arg (P := Tryd.prog) w 44 5 Tryd.underlying44 Tryd.underlying5 g 0 l.length cap (l.map Y) (by simp) hcl 9 Tryd.underlying9
    rw [Y_back] at this; exact this
end Go.Proofs.YtdjppgmaokcgiaaDoor.Pk


/- Walks of a writer's calls. -/
namespace Go.Proofs.YtdjppgmaokcgiaaDoor.Pk
open Go.RowKit

/-- A writer in block b: what it has laid, whether it is spoilt. v: its slice. -/
structure WAt (w : World) (b : Nat) (t : TypeId) (v : Value) (l : List UInt8) (bad : Bool) : Prop where
  blk : Blk w b [v, .bool bad] t
  own : Own w v l
/-- What a writer's call leaves. -/
structure WNext (w : World) (b : Nat) (t : TypeId) (v : Value) (l : List UInt8) (bad : Bool) (w' : World) : Prop where
  out : ∃ v', WAt w' b t v' l bad ∧ Chg (fun k => k = b ∨ v.ownBlock = some k) w w' ∧ ∀ k, v'.ownBlock = some k → v.ownBlock = some k ∨ w.heap.size ≤ k
theorem WAt.drew {w : World} {b : Nat} {t : TypeId} {v : Value} {l : List UInt8} {bad : Bool} (h : WAt w b t v l bad) : WAt w.drew b t v l bad := ⟨h.blk, h.own⟩
theorem WAt.chg {S : Nat → Prop} {w w' : World} {b : Nat} {t : TypeId} {v : Value} {l : List UInt8} {bad : Bool} (h : WAt w b t v l bad) (hc : Chg S w w') (h1 : ¬ S b) (h2 : ∀ k, v.ownBlock = some k → ¬ S k) : WAt w' b t v l bad := ⟨hc.blk h.blk h1, h.own.chg hc h2⟩
theorem WAt.alloc {w : World} {b : Nat} {t : TypeId} {v : Value} {l : List UInt8} {bad : Bool} (h : WAt w b t v l bad) (o : Obj) : WAt (w.alloc o) b t v l bad := h.chg (S := fun _ => False) ((Chg.refl _ _).alloc o) (fun h => h) (fun _ _ h => h)
theorem WNext.same {w : World} {b : Nat} {t : TypeId} {v : Value} {l : List UInt8} {bad : Bool} (h : WAt w b t v l bad) : WNext w b t v l bad w := ⟨⟨v, h, Chg.refl _ _, fun _ hk => .inl hk⟩⟩
theorem WAt.setBad {w : World} {b : Nat} {t : TypeId} {v : Value} {l : List UInt8} {bad : Bool} (h : WAt w b t v l bad) (ht : t ≠ 5) (bad' : Bool) : WAt (w.setCell ⟨b, 1, none⟩ (.bool bad')) b t v l bad' :=
  ⟨h.blk.setCell 1 (.bool bad'), h.own.kept fun k hk => Below.heap_setCell _ _ _ _ fun e => h.own.apart h.blk ht (by rw [hk, e])⟩
theorem WNext.setBad {w : World} {b : Nat} {t : TypeId} {v : Value} {l : List UInt8} {bad : Bool} (h : WAt w b t v l bad) (ht : t ≠ 5) (bad' : Bool) : WNext w b t v l bad' (w.setCell ⟨b, 1, none⟩ (.bool bad')) :=
  ⟨⟨v, h.setBad ht bad', (Chg.refl _ _).setCell (.inl rfl) _, fun _ hk => .inl hk⟩⟩
theorem WNext.trans {w w1 w2 : World} {b : Nat} {t : TypeId} {v v1 : Value} {l1 l2 : List UInt8} {bad bad2 : Bool} (_h1 : WAt w1 b t v1 l1 bad) (c1 : Chg (fun k => k = b ∨ v.ownBlock = some k) w w1) (p1 : ∀ k, v1.ownBlock = some k → v.ownBlock = some k ∨ w.heap.size ≤ k)
    (h2 : WNext w1 b t v1 l2 bad2 w2) : WNext w b t v l2 bad2 w2 := by
  obtain ⟨v2, a2, c2, p2⟩ := h2.out
  refine ⟨⟨v2, a2, c1.trans c2 (fun i hi => ?_), fun k hk => ?_⟩⟩
  · rintro (h | h)
    · exact .inl h
    · rcases p1 i h with h | h
      · exact .inr h
      · omega
  · rcases p2 k hk with h | h
    · exact p1 k h
    · have := c1.size; exact .inr (by omega)
/-- A push stored back. -/
theorem WAt.store {w w1 : World} {b : Nat} {t : TypeId} {v v' : Value} {l l' : List UInt8} {bad : Bool} (h : WAt w b t v l bad) (ht : t ≠ 5) (hp : Pushed w v l' v' w1) : WNext w b t v l' bad (w1.setCell ⟨b, 0, none⟩ v') := by
  have hb1 : Blk w1 b [v, .bool bad] t := hp.chg.blk h.blk (h.own.apart h.blk ht)
  refine ⟨⟨v', ⟨hb1.setCell 0 v', hp.own.kept fun k hk => Below.heap_setCell _ _ _ _ fun e => hp.own.apart hb1 ht (by rw [hk, e])⟩, ?_, hp.place⟩⟩
  exact (hp.chg.mono (fun i _ hi => .inr hi)).setCell (.inl rfl) _

theorem step_push {w : World} {ops : Array Oper} {o : Oper} {a : Act} {K : Act → World → Prop} {Q : Exit → Act → World → Prop} {E : Prop} (hg : o.guard = none) (s x : Operand)
    (ho : o.op = .call { callee := .builtin .append, args := #[s, x], argTypes := #[44, 44] }) (v : Value) (l : List UInt8) (hs : a.eval s = v)
    (hO : Own w v l) (g0 c0 : Nat) (news : List UInt8) (hx : a.eval x = .slice (some ⟨g0, 0, none⟩) news.length c0) (hn : ∀ j, j < news.length → w.cell? ⟨g0, j, none⟩ = (news.map yc)[j]?) (hlen : l.length + news.length ≤ 70368744177664)
    (h : ∀ v' w', Pushed w v (l ++ news) v' w' → K (a.put o.dst v') w') : if Region.wanted o (yielded ops a.tmps) = true then Oper.wp Tryd.prog o a w K Q else E := by
  have hw : Region.wanted o (yielded ops a.tmps) = true := by simp [Region.wanted, hg]
  rw [if_pos hw]
  exact wp_pushB s x ho v l hs hO g0 c0 news hx hn hlen h

/-- Is n a number of k bytes? -/
def fits (n : Int) (k : Nat) : Bool := decide (0 ≤ n ∧ n / 2 ^ (8 * k) = 0)
/-- What a call of a writer leaves: ok: can it be laid? -/
def lays (ok : Bool) (s l : List UInt8) (bad : Bool) : List UInt8 := if bad || !ok then l else l ++ s
end Go.Proofs.YtdjppgmaokcgiaaDoor.Pk


/- Walks of a writer's calls: texts, hashes, and what it answers. -/
namespace Go.Proofs.YtdjppgmaokcgiaaDoor.Pk
open Go.RowKit

theorem WAt.after {w w1 : World} {b : Nat} {t : TypeId} {v v' : Value} {l l' : List UInt8} {bad : Bool} (h : WAt w b t v l bad) (ht : t ≠ 5) (hp : Pushed w v l' v' w1) : w1.cell? ⟨b, 0, none⟩ = some v ∧ w1.frozen? ⟨b, 0, none⟩ = false := by
  have h1 := hp.chg.blk h.blk (h.own.apart h.blk ht)
  exact ⟨h1.cell 0, h1.free 0⟩
theorem fits_two (n : Nat) (h : n ≤ 65535) : fits n 2 = true := by simp [fits]; omega
/-- A text as it is laid. -/
def textL (s : ByteArray) : List UInt8 := beN s.size 2 ++ s.data.toList
/-- What a writer's Bytes answers. -/
def bytesR (l : List UInt8) (bad : Bool) : Value := if bad then .tuple #[.string ByteArray.empty, .int .i64 1] else .tuple #[.string ⟨l.toArray⟩, .int .i64 0]
end Go.Proofs.YtdjppgmaokcgiaaDoor.Pk


/- Walks of a nil reader's calls. -/
namespace Go.Proofs.YtdjppgmaokcgiaaDoor.Pk
open Go.RowKit

end Go.Proofs.YtdjppgmaokcgiaaDoor.Pk


/- Walks of a reader's calls, against one model of what they answer. -/
namespace Go.Proofs.YtdjppgmaokcgiaaDoor.Pk
open Go.RowKit

/-- A text by its bytes. -/
def btx (l : List UInt8) : ByteArray := ⟨l.toArray⟩
theorem mk_size (l : List UInt8) : (btx l).size = l.length := rfl
theorem mk_data (s : ByteArray) : btx s.data.toList = s := rfl
theorem mk_list (l : List UInt8) : (btx l).data.toList = l := rfl
theorem mk_cut (l : List UInt8) (a b : Nat) : (btx l).extract a b = btx ((l.take b).drop a) := by
  apply ByteArray.ext
  apply Array.ext'
  rw [ByteArray.data_extract, Array.toList_extract, List.extract_eq_take_drop]
  show (l.drop a).take (b - a) = _
  rw [List.drop_take]; rfl
theorem mk_get (l : List UInt8) (i : Nat) (h : i < (btx l).size) : (btx l)[i] = l.getD i 0 := by
  have h' : i < l.length := h
  show l.toArray[i] = _
  simp [List.getD, h']
/-- The number that these bytes stand for. -/
def numL (l : List UInt8) : Nat := l.foldl (fun n x => n * 256 + x.toNat) 0
theorem numL_snoc (l : List UInt8) (x : UInt8) : numL (l ++ [x]) = numL l * 256 + x.toNat := by simp [numL]
theorem numL_take (l : List UInt8) (i : Nat) (h : i < l.length) : numL (l.take (i + 1)) = numL (l.take i) * 256 + (l.getD i 0).toNat := by
  rw [List.take_succ_eq_append_getElem h, numL_snoc]
  simp [List.getD, h]
theorem numL_lt : ∀ (k : Nat) (l : List UInt8), l.length = k → numL l < 256 ^ k
  | 0, l, h => by
    obtain rfl := List.length_eq_zero_iff.1 h
    decide
  | k + 1, l, h => by
    have h1 := numL_take l k (by omega)
    rw [List.take_of_length_le (by omega)] at h1
    have h2 := numL_lt k (l.take k) (by rw [List.length_take]; omega)
    have h3 := (l.getD k 0).toNat_lt
    rw [h1, Nat.pow_succ]; omega
theorem or_byte (n : Nat) (x : UInt8) : n * 256 ||| x.toNat = n * 256 + x.toNat := by
  have := Nat.two_pow_add_eq_or_of_lt (i := 8) x.toNat_lt n
  rw [show n * 256 = 2 ^ 8 * n by omega, ← this]

/-- A reader in block b. -/
def RAt (w : World) (b : Nat) (t : TypeId) (l : List UInt8) (e : Int) : Prop := Blk w b [.string (btx l), .int .i64 e] t
/-- What a reader's call leaves. -/
structure RNext (w : World) (b : Nat) (t : TypeId) (l : List UInt8) (e : Int) (w' : World) : Prop where
  at_ : RAt w' b t l e
  chg : Chg (fun k => k = b) w w'
theorem RNext.same {w : World} {b : Nat} {t : TypeId} {l : List UInt8} {e : Int} (h : RAt w b t l e) : RNext w b t l e w := ⟨h, Chg.refl _ _⟩
theorem RNext.trans {w w1 w2 : World} {b : Nat} {t : TypeId} {l l2 : List UInt8} {e e2 : Int} (h : RNext w b t l e w1) (k : RNext w1 b t l2 e2 w2) : RNext w b t l2 e2 w2 := ⟨k.at_, h.chg.trans k.chg fun _ _ h => h⟩
theorem RNext.err {w w1 : World} {b : Nat} {t : TypeId} {l : List UInt8} {e : Int} (h : RNext w b t l e w1) (e' : Int) : RNext w b t l e' (w1.setCell ⟨b, 1, none⟩ (.int .i64 e')) := ⟨h.at_.setCell 1 (.int .i64 e'), h.chg.setCell rfl _⟩
theorem RNext.left {w w1 : World} {b : Nat} {t : TypeId} {l : List UInt8} {e : Int} (h : RNext w b t l e w1) (l' : List UInt8) : RNext w b t l' e (w1.setCell ⟨b, 0, none⟩ (.string (btx l'))) := ⟨h.at_.setCell 0 (.string (btx l')), h.chg.setCell rfl _⟩

/-- The first error stays. -/
def failE (e e' : Int) : Int := if e = 0 then e' else e
/-- The error behind asking for n bytes. -/
def hasE (l : List UInt8) (e n : Int) : Int := if (l.length : Int) < n then failE e 2 else e
/-- What a number of k bytes reads: the answer, what is left, the error. -/
def numR (k : Nat) (l : List UInt8) (e : Int) : Int × List UInt8 × Int :=
  if e ≠ 0 then (0, l, e) else if l.length < k then (0, l, 2) else if 9223372036854775807 < numL (l.take k) then (0, l, 3) else ((numL (l.take k) : Int), l.drop k, 0)
end Go.Proofs.YtdjppgmaokcgiaaDoor.Pk


/- Walks of a reader's calls: texts, bytes, the end. -/
namespace Go.Proofs.YtdjppgmaokcgiaaDoor.Pk
open Go.RowKit

theorem has_bad (l : List UInt8) (e n : Int) (he : e ≠ 0) : hasE l e n = e := by rw [hasE, failE, if_neg he]; split <;> rfl
theorem has_ok (l : List UInt8) (n : Int) (h : ¬ (l.length : Int) < n) : hasE l 0 n = 0 := by rw [hasE, if_neg h]
theorem has_short (l : List UInt8) (n : Int) (h : (l.length : Int) < n) : hasE l 0 n = 2 := by rw [hasE, if_pos h]; rfl
/-- What n bytes read: the answer, what is left, the error. -/
def rawR (n : Int) (l : List UInt8) (e : Int) : List UInt8 × List UInt8 × Int :=
  if e ≠ 0 then ([], l, e) else if n < 0 then ([], l, 1) else if (l.length : Int) < n then ([], l, 2) else (l.take n.toNat, l.drop n.toNat, 0)
/-- What a text of at most so many bytes reads. -/
def textR (most : Int) (l : List UInt8) (e : Int) : List UInt8 × List UInt8 × Int :=
  if e ≠ 0 then ([], l, e) else if l.length < 2 then ([], l, 2) else if (if most < 0 then 0 else most) < (numL (l.take 2) : Int) then ([], l, 4)
  else if l.length < 2 + numL (l.take 2) then ([], l, 2) else ((l.take (2 + numL (l.take 2))).drop 2, l.drop (2 + numL (l.take 2)), 0)
theorem empty_btx : ByteArray.empty = btx [] := rfl

/-- The end's error. -/
def endE (l : List UInt8) (e : Int) : Int := if 0 < l.length then failE e 3 else e
end Go.Proofs.YtdjppgmaokcgiaaDoor.Pk

