/- PkA PkB PkC PkD PkE PkF, in one text, in a namespace of their own. | PkG PkH PkI PkJ PkV PkW, in one text, in a namespace of their own. -/
import Derived.WalkKit
import Derived.WalkSpells
import Derived.WalkLawsBesides
import Derived.Deep.QuietTactic
import Derived.Deep.RegionLaw
import Derived.BigQuiet
import Derived.IntWalk
import Derived.Handy
import Derived.Laws.BitsAllLaws
import Derived.Laws.BytesArg
import Derived.Lib.AppendStr
import Derived.Lib.ConvBytes
import Derived.KernelRfl
import Derived.Test.YthkfefkcjcgfkaaGreatDoorRows
import Derived.Test.YthkfefkcjcgfkaaGreatDoorWa9
set_option linter.all false
/- Base for package pack: a block known whole, a row of bytes that is owned, numbers as bytes; append onto such a row, told with where the new row lies. -/
namespace Go.Proofs.YthkfefkcjcgfkaaGreatDoor.Pk
open Go.RowKit

/-- A fact in a box that nothing looks into. -/
structure Box (p : Prop) : Prop where
  out : p
theorem u_eq {k : IntKind} {a b : Int} (h : a = b) : Value.int k a = Value.int k b := by rw [h]
/-- A byte's number; its cell. -/
def Y (x : UInt8) : Int := (x.toNat : Int)
def yc (x : UInt8) : Value := .int .u8 (Y x)
theorem Y_back (l : List UInt8) : strOfNums (l.map Y) = ⟨l.toArray⟩ := by
  unfold strOfNums
  have : ((l.map Y).map fun n => UInt8.ofNat n.toNat) = l := by
    rw [List.map_map]
    conv => rhs; rw [← List.map_id l]
    apply List.map_congr_left
    intro x _
    simp [Y]
  rw [this]
theorem data_len (r : ByteArray) : r.data.toList.length = r.size := by rw [Array.length_toList]; rfl
theorem info5 : (Tryz.prog.info? 5).map (fun i => (i.zero, i.size, i.bytes)) = some (some (.int .u8 0), 1, 1) := by kernel_rfl

/-- A block known whole. -/
def Blk (w : World) (b : Nat) (cs : List Value) (t : TypeId) : Prop := w.heap[b]? = some (.cells cs.toArray t (0, 0))
theorem Blk.cell {w : World} {b : Nat} {cs : List Value} {t : TypeId} (h : Blk w b cs t) (i : Nat) : w.cell? ⟨b, i, none⟩ = cs[i]? := by
  rw [cell_of_row w b i _ t _ h]; simp
theorem Blk.free {w : World} {b : Nat} {cs : List Value} {t : TypeId} (h : Blk w b cs t) (i : Nat) : w.frozen? ⟨b, i, none⟩ = false := frozen_of_row w b i _ t h
theorem Blk.lt {w : World} {b : Nat} {cs : List Value} {t : TypeId} (h : Blk w b cs t) : b < w.heap.size := by
  rcases Nat.lt_or_ge b w.heap.size with h' | h'
  · exact h'
  · unfold Blk at h; rw [Array.getElem?_eq_none h'] at h; cases h
theorem Blk.setCell {w : World} {b : Nat} {cs : List Value} {t : TypeId} (h : Blk w b cs t) (i : Nat) (v : Value) : Blk (w.setCell ⟨b, i, none⟩ v) b (cs.set i v) t := by
  have := heap_setCell_same w b i cs.toArray t v h
  unfold Blk; rw [this]; simp
theorem Blk.new (w : World) (cs : List Value) (t : TypeId) : Blk (w.alloc (.cells cs.toArray t)) w.heap.size cs t := heap_alloc_new w _

/-- Of the blocks that were there only some have changed. -/
structure Chg (S : Nat → Prop) (w w' : World) : Prop where
  os : w'.os = w.os
  tape : w'.tape = w.tape
  output : w'.output = w.output
  size : w.heap.size ≤ w'.heap.size
  block : ∀ k, k < w.heap.size → ¬ S k → w'.heap[k]? = w.heap[k]?
theorem Chg.refl (S : Nat → Prop) (w : World) : Chg S w w := ⟨rfl, rfl, rfl, Nat.le_refl _, fun _ _ _ => rfl⟩
theorem Chg.trans {S T : Nat → Prop} {a b c : World} (h : Chg S a b) (k : Chg T b c) (hT : ∀ i, i < a.heap.size → T i → S i) : Chg S a c :=
  ⟨k.os.trans h.os, k.tape.trans h.tape, k.output.trans h.output, Nat.le_trans h.size k.size, fun i hi hn => (k.block i (Nat.lt_of_lt_of_le hi h.size) fun ht => hn (hT i hi ht)).trans (h.block i hi hn)⟩
theorem Chg.mono {S T : Nat → Prop} {a b : World} (h : Chg S a b) (hT : ∀ i, i < a.heap.size → S i → T i) : Chg T a b :=
  ⟨h.os, h.tape, h.output, h.size, fun i hi hn => h.block i hi fun hs => hn (hT i hi hs)⟩
theorem Chg.drew {S : Nat → Prop} {a w : World} (h : Chg S a w) : Chg S a w.drew := ⟨h.os, h.tape, h.output, h.size, h.block⟩
theorem Chg.alloc {S : Nat → Prop} {a w : World} (h : Chg S a w) (o : Obj) : Chg S a (w.alloc o) :=
  ⟨h.os, h.tape, h.output, Nat.le_trans h.size (by simp), fun i hi hn => (Below.heap_alloc _ _ _ (Nat.lt_of_lt_of_le hi h.size)).trans (h.block i hi hn)⟩
theorem Chg.setCell {S : Nat → Prop} {a w : World} (h : Chg S a w) {p : Addr} (hp : S p.block) (u : Value) : Chg S a (w.setCell p u) :=
  ⟨h.os, h.tape, h.output, by simpa [World.setCell] using h.size, fun i hi hn => (Below.heap_setCell _ _ _ _ (fun e => hn (by rw [e]; exact hp))).trans (h.block i hi hn)⟩
theorem Chg.below {S : Nat → Prop} {B : Nat} {w w' : World} (h : Chg S w w') (hB : B ≤ w.heap.size) (hS : ∀ i, S i → B ≤ i) : Below B w w' :=
  ⟨h.os, h.tape, h.output, h.size, fun k hk => h.block k (Nat.lt_of_lt_of_le hk hB) fun hs => by have := hS k hs; omega⟩
theorem Chg.of_below {B : Nat} {w w' : World} (h : Below B w w') : Chg (fun k => B ≤ k) w w' := ⟨h.os, h.tape, h.output, h.size, fun k _ hn => h.block k (by omega)⟩
theorem Chg.blk {S : Nat → Prop} {w w' : World} {b : Nat} {cs : List Value} {t : TypeId} (h : Chg S w w') (hb : Blk w b cs t) (hn : ¬ S b) : Blk w' b cs t := (h.block b hb.lt hn).trans hb

/-- v owns a row of these bytes. -/
def Own (w : World) (v : Value) (l : List UInt8) : Prop := w.ownsRow 0 5 1 v l.length (l.map yc)
theorem Own.nil (w : World) : Own w (.slice none 0 0) [] := World.ownsRow_nil _ _ _ _
theorem Own.shape {w : World} {v : Value} {l : List UInt8} (h : Own w v l) : ∃ a c, v = .slice a l.length c := by
  obtain ⟨_, ⟨rfl, h0⟩ | ⟨g, cap, cur, rfl, _⟩⟩ := h
  · exact ⟨none, 0, by rw [h0]⟩
  · exact ⟨_, _, rfl⟩
theorem Own.lt {w : World} {v : Value} {l : List UInt8} (h : Own w v l) (k : Nat) (hk : v.ownBlock = some k) : k < w.heap.size := (World.ownsRow.lt h k hk).2
theorem Own.apart {w : World} {v : Value} {l : List UInt8} {b : Nat} {cs : List Value} {t : TypeId} (h : Own w v l) (hb : Blk w b cs t) (ht : t ≠ 5) : v.ownBlock ≠ some b := by
  intro e
  obtain ⟨_, ⟨rfl, h0⟩ | ⟨g, cap, cur, rfl, _, hg, _⟩⟩ := h
  · cases e
  · obtain rfl : g = b := by simpa [Value.ownBlock] using e
    unfold Blk at hb
    rw [hg] at hb
    simp at hb
    exact ht hb.2.symm
theorem Own.kept {w w' : World} {v : Value} {l : List UInt8} (h : Own w v l) (hk : ∀ k, v.ownBlock = some k → w'.heap[k]? = w.heap[k]?) : Own w' v l := by
  obtain ⟨h1, h0 | ⟨g, cap, cur, rfl, a1, hg, a2⟩⟩ := h
  · exact ⟨h1, .inl h0⟩
  · exact ⟨h1, .inr ⟨g, cap, cur, rfl, a1, (hk g rfl).trans hg, a2⟩⟩
theorem Own.chg {S : Nat → Prop} {w w' : World} {v : Value} {l : List UInt8} (h : Own w v l) (hc : Chg S w w') (hn : ∀ k, v.ownBlock = some k → ¬ S k) : Own w' v l :=
  h.kept fun k hk => hc.block k (h.lt k hk) (hn k hk)

/-- What an append onto v leaves. -/
structure Pushed (w : World) (v : Value) (l : List UInt8) (v' : Value) (w' : World) : Prop where
  own : Own w' v' l
  chg : Chg (fun k => v.ownBlock = some k) w w'
  place : ∀ k, v'.ownBlock = some k → v.ownBlock = some k ∨ w.heap.size ≤ k
theorem chg_of_grown {w w' : World} {v : Value} (h : w.grownBy w' v.ownBlock) : Chg (fun k => v.ownBlock = some k) w w' := ⟨h.os, h.tape, h.output, h.size, fun k hk hn => h.block k hk fun e => hn e.symm⟩

theorem push_str (w : World) (ty : TypeId) (v : Value) (l : List UInt8) (s : ByteArray) (h : Own w v l) (hlen : l.length + s.size ≤ 70368744177664) :
    ∃ v' w', (Builtin.append_ #[63, 9] ty #[v, .string s]).run Tryz.prog w = .ok v' w' ∧ Pushed w v (l ++ s.data.toList) v' w' := by
  obtain ⟨i0, hi, hz0, hz1, hz2⟩ := info_parts info5
  have e : (l ++ s.data.toList).length = l.length + s.size := by rw [List.length_append, data_len]
  have em : (l ++ s.data.toList).map yc = l.map yc ++ Lib.strCells s := by rw [List.map_append]; rfl
  have hl1 : l.length + s.size ≤ maxLen := by unfold maxLen; omega
  obtain ⟨v', w', hr, h2, h3, _⟩ := Lib.run_append_own_string (P := Tryz.prog) w 0 63 9 ty 5 i0 Tryz.underlying63 Tryz.underlying9 hi hz0 hz1 hz2 v l.length _ h s hl1 (by omega) (Nat.zero_le _)
  refine ⟨v', w', hr, ⟨by unfold Own; rw [e, em]; exact h2, chg_of_grown h3, fun k hk => ?_⟩⟩
  obtain ⟨hxl, ⟨rfl, h0⟩ | ⟨g, cap, cur, rfl, _, hg, hnc, _, hcs, _⟩⟩ := h
  · have hnil : l = [] := List.eq_nil_of_length_eq_zero h0
    subst hnil
    obtain ⟨v2, w2, hr2, h4, _, _⟩ := Lib.run_append_own_string (P := Tryz.prog) w w.heap.size 63 9 ty 5 i0 Tryz.underlying63 Tryz.underlying9 hi hz0 hz1 hz2 (.slice none 0 0) 0 [] (World.ownsRow_nil _ _ _ _) s (by simpa using hl1) (by simp at hlen; omega) (Nat.le_refl _)
    rw [hr] at hr2
    cases hr2
    exact .inr (World.ownsRow.lt h4 k hk).1
  · by_cases hroom : l.length + s.size ≤ cap
    · have hr2 := Lib.run_append_room_string (P := Tryz.prog) w 63 9 ty 5 i0 Tryz.underlying63 Tryz.underlying9 hi hz1 g l.length cap cur hg s hroom (by omega)
      rw [hr] at hr2
      cases hr2
      exact .inl hk
    · have hr2 := Lib.run_append_grow_string (P := Tryz.prog) w 63 9 ty 5 i0 (.int .u8 0) Tryz.underlying63 Tryz.underlying9 hi hz0 ⟨g, 0, none⟩ l.length cap (l.map yc) (by rw [hz1]; simp) (World.ownsRow.cells (g := g) ⟨hxl, .inr ⟨g, cap, cur, rfl, by assumption, hg, hnc, by assumption, hcs, by assumption⟩⟩ rfl) s (by omega) (by omega) (by rw [hz2]; exact growslice_fits (by omega) (by omega))
      rw [hr] at hr2
      cases hr2
      simp [Value.ownBlock] at hk
      exact .inr (by omega)

theorem push_bytes (w : World) (ty : TypeId) (v : Value) (l news : List UInt8) (g0 c0 : Nat) (h : Own w v l) (hn : ∀ j, j < news.length → w.cell? ⟨g0, j, none⟩ = (news.map yc)[j]?) (hlen : l.length + news.length ≤ 70368744177664) :
    ∃ v' w', (Builtin.append_ #[63, 63] ty #[v, .slice (some ⟨g0, 0, none⟩) news.length c0]).run Tryz.prog w = .ok v' w' ∧ Pushed w v (l ++ news) v' w' := by
  obtain ⟨i0, hi, hz0, hz1, hz2⟩ := info_parts info5
  have hl1 : l.length + news.length ≤ maxLen := by unfold maxLen; omega
  have c1 : ∀ j u, (news.map yc)[j]? = some u → w.cell? ((⟨g0, 0, none⟩ : Addr).add j) = some u := fun j u hj => by
    have hadd : (⟨g0, 0, none⟩ : Addr).add j = ⟨g0, j, none⟩ := by unfold Addr.add; split <;> simp_all
    have hjl : j < news.length := by
      rcases Nat.lt_or_ge j news.length with h | h
      · exact h
      · rw [List.getElem?_eq_none (by simpa using h)] at hj; cases hj
    rw [hadd, hn j hjl]; exact hj
  have c2 : ∀ u ∈ news.map yc, u.oneCell' = true := fun u hu => by
    simp only [List.mem_map] at hu; obtain ⟨y, _, rfl⟩ := hu; rfl
  obtain ⟨v', w', hr, h2, h3, _⟩ := run_append_own (P := Tryz.prog) w 0 63 ty 5 i0 (.int .u8 0) 1 1 Tryz.underlying63 hi hz0 hz1 hz2 rfl (by decide) v l.length _ h ⟨g0, 0, none⟩ news.length c0 (news.map yc) (by simp) c1 c2 hl1 (by omega) (Nat.zero_le _)
  refine ⟨v', w', hr, ⟨by unfold Own; rw [List.length_append, List.map_append]; exact h2, chg_of_grown h3, fun k hk => ?_⟩⟩
  obtain ⟨hxl, ⟨rfl, h0⟩ | ⟨g, cap, cur, rfl, b1, hg, hnc, b2, hcs, b3⟩⟩ := h
  · have hnil : l = [] := List.eq_nil_of_length_eq_zero h0
    subst hnil
    obtain ⟨v2, w2, hr2, h4, _, _⟩ := run_append_own (P := Tryz.prog) w w.heap.size 63 ty 5 i0 (.int .u8 0) 1 1 Tryz.underlying63 hi hz0 hz1 hz2 rfl (by decide) (.slice none 0 0) 0 [] (World.ownsRow_nil _ _ _ _) ⟨g0, 0, none⟩ news.length c0 (news.map yc) (by simp) c1 c2 (by simpa using hl1) (by simp at hlen; omega) (Nat.le_refl _)
    rw [hr] at hr2
    cases hr2
    exact .inr (World.ownsRow.lt h4 k hk).1
  · have hrow : w.heap[g]? = some (.cells cur 5 (0, 0)) := hg
    by_cases hroom : l.length + news.length ≤ cap
    · have hr2 := run_append_room_cells (P := Tryz.prog) w 63 ty 5 i0 Tryz.underlying63 hi g 0 l.length cap ⟨g0, 0, none⟩ news.length c0 (news.map yc) (by rw [hz1]; simp) c1 c2 hroom
        (fun j hj => by
          rw [cell_of_row w g _ cur _ (0, 0) hrow, hz1]
          simp only [List.length_map] at hj
          simp; omega) (fun j hj => frozen_of_row w g _ cur _ hrow)
      rw [hr] at hr2
      cases hr2
      exact .inl hk
    · obtain ⟨v2, w2, hr2, h4, _⟩ := run_append_arg_grows (P := Tryz.prog) w 63 ty 5 i0 (.int .u8 0) 1 1 Tryz.underlying63 hi hz0 hz1 hz2 rfl (by decide) ⟨g, 0, none⟩ l.length cap (l.map yc) (by simp) (World.ownsRow.cells (g := g) ⟨hxl, .inr ⟨g, cap, cur, rfl, b1, hg, hnc, b2, hcs, b3⟩⟩ rfl)
        ⟨g0, 0, none⟩ news.length c0 (news.map yc) (by simp) c1 (by omega) hl1 (by omega)
      rw [hr] at hr2
      cases hr2
      exact .inr (World.ownsRow.lt h4 k hk).1

section
variable {w : World} {o : Oper} {a : Act} {Q : Exit → Act → World → Prop}
theorem wp_pushS {K : Act → World → Prop} (s x : Operand)
    (ho : o.op = .call { callee := .builtin .append, args := #[s, x], argTypes := #[63, 9] }) (v : Value) (l : List UInt8) (hs : a.eval s = v)
    (hO : Own w v l) (str : ByteArray) (hx : a.eval x = .string str) (hlen : l.length + str.size ≤ 70368744177664)
    (h : ∀ v' w', Pushed w v (l ++ str.data.toList) v' w' → K (a.put o.dst v') w') : o.wp Tryz.prog a w K Q := by
  obtain ⟨v', w', hr, hp⟩ := push_str w o.type v l str hO hlen
  unfold Oper.wp execOp
  simp only [ho, resolve, invoke, builtin, Sem.run_bind, Sem.run_pure, Result.andThen_ok, List.map_toArray, List.map_cons, List.map_nil, hs, hx, hr]
  exact h _ _ hp
theorem wp_pushB {K : Act → World → Prop} (s x : Operand)
    (ho : o.op = .call { callee := .builtin .append, args := #[s, x], argTypes := #[63, 63] }) (v : Value) (l : List UInt8) (hs : a.eval s = v)
    (hO : Own w v l) (g0 c0 : Nat) (news : List UInt8) (hx : a.eval x = .slice (some ⟨g0, 0, none⟩) news.length c0) (hn : ∀ j, j < news.length → w.cell? ⟨g0, j, none⟩ = (news.map yc)[j]?) (hlen : l.length + news.length ≤ 70368744177664)
    (h : ∀ v' w', Pushed w v (l ++ news) v' w' → K (a.put o.dst v') w') : o.wp Tryz.prog a w K Q := by
  obtain ⟨v', w', hr, hp⟩ := push_bytes w o.type v l news g0 c0 hO hn hlen
  unfold Oper.wp execOp
  simp only [ho, resolve, invoke, builtin, Sem.run_bind, Sem.run_pure, Result.andThen_ok, List.map_toArray, List.map_cons, List.map_nil, hs, hx, hr]
  exact h _ _ hp
theorem wpList_pushS {ops : Array Oper} {rest : List Oper} (hgd : o.guard = none) (s x : Operand)
    (ho : o.op = .call { callee := .builtin .append, args := #[s, x], argTypes := #[63, 9] }) (v : Value) (l : List UInt8) (hs : a.eval s = v)
    (hO : Own w v l) (str : ByteArray) (hx : a.eval x = .string str) (hlen : l.length + str.size ≤ 70368744177664)
    (h : ∀ v' w', Pushed w v (l ++ str.data.toList) v' w' → wpList Tryz.prog ops Q rest (a.put o.dst v') w') : wpList Tryz.prog ops Q (o :: rest) a w :=
  wpList_plain hgd fun _ hK => wp_pushS s x ho v l hs hO str hx hlen fun v' w' hp => hK _ _ (h v' w' hp)
end

/-- A number of n bytes, the greatest byte first. -/
def beN (x : Nat) : Nat → List UInt8
  | 0 => []
  | i + 1 => UInt8.ofNat (x / 2 ^ (8 * i) % 256) :: beN x i
theorem beN_length (x : Nat) : ∀ n, (beN x n).length = n
  | 0 => rfl
  | n + 1 => by simp [beN, beN_length x n]
theorem byte_new (w : World) (x : UInt8) : ∀ j, j < [x].length → (w.alloc (.cells #[Value.int .u8 (x.toNat : Int)] 5)).cell? ⟨w.heap.size, j, none⟩ = ([x].map yc)[j]? := by
  intro j hj
  obtain rfl : j = 0 := by simpa using hj
  rw [World.cell?_alloc_at _ _ _ _ rfl]; rfl
theorem own_text {w : World} {v : Value} {l : List UInt8} (h : Own w v l) : (convert 63 9 v).run Tryz.prog w = .ok (.string ⟨l.toArray⟩) w := by
  obtain ⟨hx, ⟨rfl, h0⟩ | ⟨g, cap, cur, rfl, b1, hg, hnc, b2, hcs, b3⟩⟩ := h
  · have hnil : l = [] := List.eq_nil_of_length_eq_zero h0
    subst hnil
    exact run_convert_bytes_nil (P := Tryz.prog) w 63 5 Tryz.underlying63 Tryz.underlying5 _ _ 9 Tryz.underlying9
  · have hcl : ∀ i, i < l.length → w.cell? ⟨g, 0 + i, none⟩ = some (.int .u8 ((l.map Y).getD i 0)) := by
      intro i hi
      have := World.ownsRow.cells (g := g) (⟨hx, .inr ⟨g, cap, cur, rfl, b1, hg, hnc, b2, hcs, b3⟩⟩ : w.ownsRow 0 5 1 (.slice (some ⟨g, 0, none⟩) l.length cap) l.length (l.map yc)) rfl i (yc (l[i])) (by simp [hi])
      rw [Nat.zero_add]
      have hadd : (⟨g, 0, none⟩ : Addr).add i = ⟨g, i, none⟩ := by unfold Addr.add; split <;> simp_all
      rw [hadd] at this
      rw [this]
      simp [yc, List.getD, hi]
    have := run_convert_bytes_arg (P := Tryz.prog) w 63 5 Tryz.underlying63 Tryz.underlying5 g 0 l.length cap (l.map Y) (by simp) hcl 9 Tryz.underlying9
    rw [Y_back] at this; exact this
end Go.Proofs.YthkfefkcjcgfkaaGreatDoor.Pk


/- Walks of a writer's calls. -/
namespace Go.Proofs.YthkfefkcjcgfkaaGreatDoor.Pk
open Go.RowKit

/-- A writer in block b: what it has laid, whether it is spoilt. v: its slice. -/
structure WAt (w : World) (b : Nat) (t : TypeId) (v : Value) (l : List UInt8) (bad : Bool) : Prop where
  blk : Blk w b [v, .bool bad] t
  own : Own w v l
/-- What a writer's call leaves. -/
structure WNext (w : World) (b : Nat) (t : TypeId) (v : Value) (l : List UInt8) (bad : Bool) (w' : World) : Prop where
  out : ∃ v', WAt w' b t v' l bad ∧ Chg (fun k => k = b ∨ v.ownBlock = some k) w w' ∧ ∀ k, v'.ownBlock = some k → v.ownBlock = some k ∨ w.heap.size ≤ k
theorem WAt.drew {w : World} {b : Nat} {t : TypeId} {v : Value} {l : List UInt8} {bad : Bool} (h : WAt w b t v l bad) : WAt w.drew b t v l bad := ⟨h.blk, h.own⟩
theorem WAt.chg {S : Nat → Prop} {w w' : World} {b : Nat} {t : TypeId} {v : Value} {l : List UInt8} {bad : Bool} (h : WAt w b t v l bad) (hc : Chg S w w') (h1 : ¬ S b) (h2 : ∀ k, v.ownBlock = some k → ¬ S k) : WAt w' b t v l bad := ⟨hc.blk h.blk h1, h.own.chg hc h2⟩
theorem WAt.alloc {w : World} {b : Nat} {t : TypeId} {v : Value} {l : List UInt8} {bad : Bool} (h : WAt w b t v l bad) (o : Obj) : WAt (w.alloc o) b t v l bad := h.chg (S := fun _ => False) ((Chg.refl _ _).alloc o) (fun h => h) (fun _ _ h => h)
theorem WNext.same {w : World} {b : Nat} {t : TypeId} {v : Value} {l : List UInt8} {bad : Bool} (h : WAt w b t v l bad) : WNext w b t v l bad w := ⟨⟨v, h, Chg.refl _ _, fun _ hk => .inl hk⟩⟩
theorem WAt.setBad {w : World} {b : Nat} {t : TypeId} {v : Value} {l : List UInt8} {bad : Bool} (h : WAt w b t v l bad) (ht : t ≠ 5) (bad' : Bool) : WAt (w.setCell ⟨b, 1, none⟩ (.bool bad')) b t v l bad' :=
  ⟨h.blk.setCell 1 (.bool bad'), h.own.kept fun k hk => Below.heap_setCell _ _ _ _ fun e => h.own.apart h.blk ht (by rw [hk, e])⟩
theorem WNext.setBad {w : World} {b : Nat} {t : TypeId} {v : Value} {l : List UInt8} {bad : Bool} (h : WAt w b t v l bad) (ht : t ≠ 5) (bad' : Bool) : WNext w b t v l bad' (w.setCell ⟨b, 1, none⟩ (.bool bad')) :=
  ⟨⟨v, h.setBad ht bad', (Chg.refl _ _).setCell (.inl rfl) _, fun _ hk => .inl hk⟩⟩
theorem WNext.trans {w w1 w2 : World} {b : Nat} {t : TypeId} {v v1 : Value} {l1 l2 : List UInt8} {bad bad2 : Bool} (_h1 : WAt w1 b t v1 l1 bad) (c1 : Chg (fun k => k = b ∨ v.ownBlock = some k) w w1) (p1 : ∀ k, v1.ownBlock = some k → v.ownBlock = some k ∨ w.heap.size ≤ k)
    (h2 : WNext w1 b t v1 l2 bad2 w2) : WNext w b t v l2 bad2 w2 := by
  obtain ⟨v2, a2, c2, p2⟩ := h2.out
  refine ⟨⟨v2, a2, c1.trans c2 (fun i hi => ?_), fun k hk => ?_⟩⟩
  · rintro (h | h)
    · exact .inl h
    · rcases p1 i h with h | h
      · exact .inr h
      · omega
  · rcases p2 k hk with h | h
    · exact p1 k h
    · have := c1.size; exact .inr (by omega)
/-- A push stored back. -/
theorem WAt.store {w w1 : World} {b : Nat} {t : TypeId} {v v' : Value} {l l' : List UInt8} {bad : Bool} (h : WAt w b t v l bad) (ht : t ≠ 5) (hp : Pushed w v l' v' w1) : WNext w b t v l' bad (w1.setCell ⟨b, 0, none⟩ v') := by
  have hb1 : Blk w1 b [v, .bool bad] t := hp.chg.blk h.blk (h.own.apart h.blk ht)
  refine ⟨⟨v', ⟨hb1.setCell 0 v', hp.own.kept fun k hk => Below.heap_setCell _ _ _ _ fun e => hp.own.apart hb1 ht (by rw [hk, e])⟩, ?_, hp.place⟩⟩
  exact (hp.chg.mono (fun i _ hi => .inr hi)).setCell (.inl rfl) _

set_option maxHeartbeats 400000 in
theorem takes_nil (f : Bool) (w : World) :
    Calls Tryz.prog 68 #[.pointer none, .bool f] w fun e w' => e = .returned (.bool false) ∧ w = w' := by
  go_enter Tryz.func68, Tryz.ntmps68
  go_wp2
  go_returns
  exact ⟨rfl, rfl⟩
set_option maxHeartbeats 400000 in
theorem takes_fit (b : Nat) (v : Value) (bad : Bool) (w : World) (hb : Blk w b [v, .bool bad] 84) :
    Calls Tryz.prog 68 #[.pointer (some ⟨b, 0, none⟩), .bool true] w fun e w' => e = .returned (.bool (!bad)) ∧ w = w' := by
  have c1 : w.cell? ⟨b, 1, none⟩ = some (.bool bad) := hb.cell 1
  clear hb
  go_enter Tryz.func68, Tryz.ntmps68
  go_wp2
  go_returns
  exact ⟨rfl, rfl⟩
set_option maxHeartbeats 400000 in
theorem takes_bad (b : Nat) (v : Value) (bad : Bool) (w : World) (hb : Blk w b [v, .bool bad] 84) :
    Calls Tryz.prog 68 #[.pointer (some ⟨b, 0, none⟩), .bool false] w fun e w' => e = .returned (.bool false) ∧ w.setCell ⟨b, 1, none⟩ (.bool true) = w' := by
  have c1 : w.cell? ⟨b, 1, none⟩ = some (.bool bad) := hb.cell 1
  have f1 := hb.free 1
  clear hb
  go_enter Tryz.func68, Tryz.ntmps68
  go_wp2
  go_returns
  exact ⟨rfl, rfl⟩

theorem step_push {w : World} {ops : Array Oper} {o : Oper} {a : Act} {K : Act → World → Prop} {Q : Exit → Act → World → Prop} {E : Prop} (hg : o.guard = none) (s x : Operand)
    (ho : o.op = .call { callee := .builtin .append, args := #[s, x], argTypes := #[63, 63] }) (v : Value) (l : List UInt8) (hs : a.eval s = v)
    (hO : Own w v l) (g0 c0 : Nat) (news : List UInt8) (hx : a.eval x = .slice (some ⟨g0, 0, none⟩) news.length c0) (hn : ∀ j, j < news.length → w.cell? ⟨g0, j, none⟩ = (news.map yc)[j]?) (hlen : l.length + news.length ≤ 70368744177664)
    (h : ∀ v' w', Pushed w v (l ++ news) v' w' → K (a.put o.dst v') w') : if Region.wanted o (yielded ops a.tmps) = true then Oper.wp Tryz.prog o a w K Q else E := by
  have hw : Region.wanted o (yielded ops a.tmps) = true := by simp [Region.wanted, hg]
  rw [if_pos hw]
  exact wp_pushB s x ho v l hs hO g0 c0 news hx hn hlen h

set_option maxHeartbeats 800000 in
set_option maxRecDepth 100000 in
theorem number_nil (n : Int) (k : Nat) (w : World) (hk : k ≤ 8) :
    Calls Tryz.prog 76 #[.pointer none, .int .i64 n, .int .i64 (k : Int)] w fun e w' => e = .returned (.tuple #[]) ∧ w = w' := by
  have hT := fun f => takes_nil f w
  by_cases h0 : 0 ≤ n
  all_goals
    go_enter Tryz.func76, Tryz.ntmps76
    go_wp2_with fail
    refine (hT _).mono ?_
    rintro e w' ⟨rfl, rfl⟩
    go_wp2_with fail
    go_returns
    exact ⟨rfl, rfl⟩
/-- Is n a number of k bytes? -/
def fits (n : Int) (k : Nat) : Bool := decide (0 ≤ n ∧ n / 2 ^ (8 * k) = 0)
set_option maxHeartbeats 800000 in
set_option maxRecDepth 100000 in
theorem number_bad (b : Nat) (v : Value) (bad : Bool) (n : Int) (k : Nat) (w : World) (hk : k ≤ 8) (hb : Blk w b [v, .bool bad] 84) (hf : fits n k = false) :
    Calls Tryz.prog 76 #[.pointer (some ⟨b, 0, none⟩), .int .i64 n, .int .i64 (k : Int)] w fun e w' => e = .returned (.tuple #[]) ∧ w.setCell ⟨b, 1, none⟩ (.bool true) = w' := by
  have hT := takes_bad b v bad w hb
  by_cases h0 : 0 ≤ n
  · have h1 : (n / 2 ^ (8 * k) == 0) = false := by simpa [fits, h0] using hf
    replace h1 := Box.mk h1
    go_enter Tryz.func76, Tryz.ntmps76
    go_wp2_with fail
    rw [h1.out]
    refine hT.mono ?_
    rintro e w' ⟨rfl, rfl⟩
    go_wp2_with fail
    go_returns
    exact ⟨rfl, rfl⟩
  · go_enter Tryz.func76, Tryz.ntmps76
    go_wp2_with fail
    refine hT.mono ?_
    rintro e w' ⟨rfl, rfl⟩
    go_wp2_with fail
    go_returns
    exact ⟨rfl, rfl⟩
set_option maxHeartbeats 800000 in
set_option maxRecDepth 100000 in
theorem number_spoilt (b : Nat) (v : Value) (n : Int) (k : Nat) (w : World) (hk : k ≤ 8) (hb : Blk w b [v, .bool true] 84) (hf : fits n k = true) :
    Calls Tryz.prog 76 #[.pointer (some ⟨b, 0, none⟩), .int .i64 n, .int .i64 (k : Int)] w fun e w' => e = .returned (.tuple #[]) ∧ w = w' := by
  have hT := takes_fit b v true w hb
  obtain ⟨h0, h1⟩ : 0 ≤ n ∧ n / 2 ^ (8 * k) = 0 := by simpa [fits] using hf
  replace h1 := Box.mk (show (n / 2 ^ (8 * k) == 0) = true by simp [h1])
  go_enter Tryz.func76, Tryz.ntmps76
  go_wp2_with fail
  rw [h1.out]
  refine hT.mono ?_
  rintro e w' ⟨rfl, rfl⟩
  go_wp2_with fail
  go_returns
  exact ⟨rfl, rfl⟩
set_option maxHeartbeats 1600000 in
set_option maxRecDepth 100000 in
theorem number_fit (b : Nat) (v : Value) (l : List UInt8) (n k : Nat) (w : World) (hk : k ≤ 8) (hW : WAt w b 84 v l false) (hf : fits n k = true) (hlen : l.length ≤ 35184372088832) :
    Calls Tryz.prog 76 #[.pointer (some ⟨b, 0, none⟩), .int .i64 (n : Int), .int .i64 (k : Int)] w fun e w' => e = .returned (.tuple #[]) ∧ WNext w b 84 v (l ++ beN n k) false w' := by
  have hT := takes_fit b v false w hW.blk
  obtain ⟨h0, h1⟩ : 0 ≤ (n : Int) ∧ (n : Int) / 2 ^ (8 * k) = 0 := by simpa [fits] using hf
  replace h1 := Box.mk (show ((n : Int) / 2 ^ (8 * k) == 0) = true by simp [h1])
  replace hW := Box.mk hW
  go_enter Tryz.func76, Tryz.ntmps76
  go_wp2_with fail
  rw [h1.out]
  refine hT.mono ?_
  rintro e w' ⟨rfl, rfl⟩
  clear hT
  go_wp2_with fail
  go_loopw [6] (fun q wr => ∃ (i : Nat) (p : List UInt8), i ≤ k ∧ q = .int .i64 ((i : Int) - 1) ∧ Box (p ++ beN n i = l ++ beN n k) ∧ Box (p.length + i = l.length + k) ∧ Box (WNext w b 84 v p false wr)) (fun q _ => (intOf q + 1).toNat)
  case atStart => exact ⟨k, l, Nat.le_refl _, rfl, ⟨rfl⟩, ⟨rfl⟩, ⟨WNext.same hW.out⟩⟩
  case round =>
    clear hW
    obtain ⟨i, p, hi, rfl, hp, hpl, hN⟩ := hrel
    by_cases hi0 : 0 < i
    · obtain ⟨j, rfl⟩ : ∃ j, i = j + 1 := ⟨i - 1, by omega⟩
      obtain ⟨d, hd⟩ : ∃ d, UInt8.ofNat (n / 2 ^ (8 * j) % 256) = d := ⟨_, rfl⟩
      have hcv : (n : Int) / 2 ^ (8 * j) % 256 = (d.toNat : Int) := by
        rw [← hd, UInt8.toNat_ofNat']
        have h1 : n / 2 ^ (8 * j) % 256 % 2 ^ 8 = n / 2 ^ (8 * j) % 256 := Nat.mod_eq_of_lt (by omega)
        rw [h1]; simp
      replace hd := Box.mk hd
      obtain ⟨v1, hA, hC, hP⟩ := hN.out.out
      clear hN
      obtain ⟨a1, c1, rfl⟩ := hA.own.shape
      have k0 : wr.cell? ⟨b, 0, none⟩ = some (.slice a1 p.length c1) := hA.blk.cell 0
      have hlt := hA.blk.lt
      have hA2 : WAt (wr.alloc (.cells #[Value.int .u8 (d.toNat : Int)] 5)).drew b 84 (.slice a1 p.length c1) p false := (hA.alloc _).drew
      have hC2 := (hC.alloc (.cells #[Value.int .u8 (d.toNat : Int)] 5)).drew
      have hnw : Box (∀ j, j < [d].length → (wr.alloc (.cells #[Value.int .u8 (d.toNat : Int)] 5)).drew.cell? ⟨wr.heap.size, j, none⟩ = ([d].map yc)[j]?) := ⟨byte_new wr d⟩
      have hcap : Box (p.length + [d].length ≤ 70368744177664) := ⟨by have := hpl.out; simp only [List.length_cons, List.length_nil]; omega⟩
      have hbt := hA2.blk
      have hO2 := Box.mk hA2.own
      replace hA2 := Box.mk hA2
      replace hC2 := Box.mk hC2
      replace hP := Box.mk hP
      have hne := Box.mk (hA2.out.own.apart hA2.out.blk (by decide))
      have hbt := Box.mk hA2.out.blk
      clear hA hC
      have hw8 : IntKind.i64.wrap (8 * (j : Int)) = 8 * (j : Int) := by rw [IntKind.wrap_i64]; omega
      have hcv2 : IntKind.u8.wrap ((n : Int) / 2 ^ (8 * (j : Int)).toNat) = (d.toNat : Int) := by
        rw [IntKind.wrap_u8, show (8 * (j : Int)).toNat = 8 * j by omega]; exact hcv
      have h80 : ¬ (8 * (j : Int) < 0) := by omega
      go_wp2_with fail
      go_region_law (refine step_push rfl (.tmp 29) (.tmp 35) rfl (.slice a1 p.length c1) p rfl hO2.out wr.heap.size 1 [d] rfl hnw.out hcap.out ?_; intro v2 w2 hp2; obtain ⟨a2, c2, rfl⟩ := hp2.own.shape; have k1 := hp2.chg.blk hbt.out hne.out; have k2 : w2.cell? ⟨b, 0, none⟩ = some (.slice a1 p.length c1) := k1.cell 0; have k3 := k1.free 0; replace hp2 := Box.mk hp2; clear k1)
      all_goals
        have hS := WNext.trans hA2.out hC2.out hP.out (hA2.out.store (by decide) hp2.out)
        rw [show (p ++ [d]).length = p.length + 1 by simp] at hS
        replace hS := Box.mk hS
        go_wp2_with fail
        have hm : (intOf (Value.int IntKind.i64 ((j : Int) - 1)) + 1).toNat < (intOf (Value.int IntKind.i64 (((j + 1 : Nat) : Int) - 1)) + 1).toNat := by simp [intOf]
        refine ⟨⟨j, p ++ [d], by omega, by go_num, ⟨?_⟩, ⟨?_⟩, ⟨hS.out⟩⟩, hm⟩
        · rw [← hp.out, beN, hd.out, List.append_assoc]; rfl
        · have := hpl.out; rw [List.length_append]; simp only [List.length_cons, List.length_nil]; omega
    · obtain rfl : i = 0 := by omega
      have hp' := hp.out
      rw [beN, List.append_nil] at hp'
      rw [hp'] at hN
      go_wp2_with fail
      go_returns
      exact ⟨rfl, hN.out⟩

/-- What a call of a writer leaves: ok: can it be laid? -/
def lays (ok : Bool) (s l : List UInt8) (bad : Bool) : List UInt8 := if bad || !ok then l else l ++ s
theorem number_any (b : Nat) (v : Value) (l : List UInt8) (bad : Bool) (n : Int) (k : Nat) (w : World) (hk : k ≤ 8) (hW : WAt w b 84 v l bad) (hlen : l.length ≤ 35184372088832) :
    Calls Tryz.prog 76 #[.pointer (some ⟨b, 0, none⟩), .int .i64 n, .int .i64 (k : Int)] w fun e w' => e = .returned (.tuple #[]) ∧ WNext w b 84 v (lays (fits n k) (beN n.toNat k) l bad) (bad || !fits n k) w' := by
  cases hf : fits n k with
  | false => exact (number_bad b v bad n k w hk hW.blk hf).mono fun e w' ⟨he, hw⟩ => ⟨he, by subst hw; simpa [lays] using WNext.setBad hW (by decide) true⟩
  | true =>
    cases bad with
    | true => exact (number_spoilt b v n k w hk hW.blk hf).mono fun e w' ⟨he, hw⟩ => ⟨he, by subst hw; simpa [lays] using WNext.same hW⟩
    | false =>
      obtain ⟨m, rfl⟩ : ∃ m : Nat, n = m := ⟨n.toNat, by simp [fits] at hf; omega⟩
      exact (number_fit b v l m k w hk hW hf hlen).mono fun e w' ⟨he, hn⟩ => ⟨he, by simpa [lays] using hn⟩
theorem byte_any (b : Nat) (v : Value) (l : List UInt8) (bad : Bool) (n : Int) (w : World) (hW : WAt w b 84 v l bad) (hlen : l.length ≤ 35184372088832) :
    Calls Tryz.prog 41 #[.pointer (some ⟨b, 0, none⟩), .int .i64 n] w fun e w' => e = .returned (.tuple #[]) ∧ WNext w b 84 v (lays (fits n 1) (beN n.toNat 1) l bad) (bad || !fits n 1) w' := by
  have hN := number_any b v l bad n 1 w (by omega) hW hlen
  clear hW
  go_enter Tryz.func41, Tryz.ntmps41
  go_wp2_with fail
  refine hN.mono ?_
  rintro e w' ⟨rfl, h⟩
  go_wp2_with fail
  go_returns
  exact ⟨rfl, h⟩
theorem two_any (b : Nat) (v : Value) (l : List UInt8) (bad : Bool) (n : Int) (w : World) (hW : WAt w b 84 v l bad) (hlen : l.length ≤ 35184372088832) :
    Calls Tryz.prog 42 #[.pointer (some ⟨b, 0, none⟩), .int .i64 n] w fun e w' => e = .returned (.tuple #[]) ∧ WNext w b 84 v (lays (fits n 2) (beN n.toNat 2) l bad) (bad || !fits n 2) w' := by
  have hN := number_any b v l bad n 2 w (by omega) hW hlen
  clear hW
  go_enter Tryz.func42, Tryz.ntmps42
  go_wp2_with fail
  refine hN.mono ?_
  rintro e w' ⟨rfl, h⟩
  go_wp2_with fail
  go_returns
  exact ⟨rfl, h⟩
theorem four_any (b : Nat) (v : Value) (l : List UInt8) (bad : Bool) (n : Int) (w : World) (hW : WAt w b 84 v l bad) (hlen : l.length ≤ 35184372088832) :
    Calls Tryz.prog 67 #[.pointer (some ⟨b, 0, none⟩), .int .i64 n] w fun e w' => e = .returned (.tuple #[]) ∧ WNext w b 84 v (lays (fits n 4) (beN n.toNat 4) l bad) (bad || !fits n 4) w' := by
  have hN := number_any b v l bad n 4 w (by omega) hW hlen
  clear hW
  go_enter Tryz.func67, Tryz.ntmps67
  go_wp2_with fail
  refine hN.mono ?_
  rintro e w' ⟨rfl, h⟩
  go_wp2_with fail
  go_returns
  exact ⟨rfl, h⟩
theorem eight_any (b : Nat) (v : Value) (l : List UInt8) (bad : Bool) (n : Int) (w : World) (hW : WAt w b 84 v l bad) (hlen : l.length ≤ 35184372088832) :
    Calls Tryz.prog 43 #[.pointer (some ⟨b, 0, none⟩), .int .i64 n] w fun e w' => e = .returned (.tuple #[]) ∧ WNext w b 84 v (lays (fits n 8) (beN n.toNat 8) l bad) (bad || !fits n 8) w' := by
  have hN := number_any b v l bad n 8 w (by omega) hW hlen
  clear hW
  go_enter Tryz.func43, Tryz.ntmps43
  go_wp2_with fail
  refine hN.mono ?_
  rintro e w' ⟨rfl, h⟩
  go_wp2_with fail
  go_returns
  exact ⟨rfl, h⟩
end Go.Proofs.YthkfefkcjcgfkaaGreatDoor.Pk


/- Walks of a writer's calls: texts, hashes, and what it answers. -/
namespace Go.Proofs.YthkfefkcjcgfkaaGreatDoor.Pk
open Go.RowKit

theorem WAt.after {w w1 : World} {b : Nat} {t : TypeId} {v v' : Value} {l l' : List UInt8} {bad : Bool} (h : WAt w b t v l bad) (ht : t ≠ 5) (hp : Pushed w v l' v' w1) : w1.cell? ⟨b, 0, none⟩ = some v ∧ w1.frozen? ⟨b, 0, none⟩ = false := by
  have h1 := hp.chg.blk h.blk (h.own.apart h.blk ht)
  exact ⟨h1.cell 0, h1.free 0⟩
theorem fits_two (n : Nat) (h : n ≤ 65535) : fits n 2 = true := by simp [fits]; omega
/-- A text as it is laid. -/
def textL (s : ByteArray) : List UInt8 := beN s.size 2 ++ s.data.toList
set_option maxHeartbeats 800000 in
set_option maxRecDepth 100000 in
theorem text_any (b : Nat) (v : Value) (l : List UInt8) (bad : Bool) (s : ByteArray) (w : World) (hW : WAt w b 84 v l bad) (hlen : l.length ≤ 35184372088000) :
    Calls Tryz.prog 115 #[.pointer (some ⟨b, 0, none⟩), .string s] w fun e w' => e = .returned (.tuple #[]) ∧ WNext w b 84 v (lays (decide (s.size ≤ 65535)) (textL s) l bad) (bad || !decide (s.size ≤ 65535)) w' := by
  by_cases hs : s.size ≤ 65535
  · have hT := takes_fit b v bad w hW.blk
    have hN := two_any b v l bad s.size w hW (by omega)
    rw [fits_two _ hs] at hN
    replace hN := Box.mk hN
    have hsB := Box.mk hs
    have hd := Box.mk (show decide ((s.size : Int) ≤ 65535) = true from decide_eq_true (by omega))
    replace hW := Box.mk hW
    go_enter Tryz.func115, Tryz.ntmps115
    go_wp2_with fail
    rw [hd.out]
    refine hT.mono ?_
    rintro e w' ⟨rfl, rfl⟩
    clear hT
    cases bad with
    | true =>
      go_wp2_with fail
      go_returns
      exact ⟨rfl, by simpa [lays] using WNext.same hW.out⟩
    | false =>
      go_wp2_with fail
      refine hN.out.mono ?_
      rintro e w1 ⟨rfl, hn⟩
      clear hN
      obtain ⟨v1, hA, hC, hP⟩ := hn.out
      simp only [lays, Bool.not_true, Bool.or_false, if_false, Bool.false_eq_true, Int.toNat_natCast] at hA
      obtain ⟨L, hL⟩ : ∃ L, l ++ beN s.size 2 = L := ⟨_, rfl⟩
      have hLl : L.length = l.length + 2 := by rw [← hL, List.length_append, beN_length]
      rw [hL] at hA
      replace hL := Box.mk hL
      obtain ⟨a1, c1, rfl⟩ := hA.own.shape
      have k0 : w1.cell? ⟨b, 0, none⟩ = some (.slice a1 L.length c1) := hA.blk.cell 0
      have hne := Box.mk (hA.own.apart hA.blk (by decide))
      have hcap : Box (L.length + s.size ≤ 70368744177664) := ⟨by omega⟩
      have hO := Box.mk hA.own
      replace hA := Box.mk hA
      replace hC := Box.mk hC
      replace hP := Box.mk hP
      clear hn hs hLl
      go_wp2_with (refine wpList_pushS rfl (.tmp 18) (.tmp 19) rfl (.slice a1 L.length c1) L rfl hO.out s rfl hcap.out ?_; intro v2 w2 hp2; obtain ⟨a2, c2, rfl⟩ := hp2.own.shape; obtain ⟨k2, k3⟩ := hA.out.after (by decide) hp2; replace hp2 := Box.mk hp2)
      go_returns
      refine ⟨rfl, ?_⟩
      have hS := WNext.trans hA.out hC.out hP.out (hA.out.store (by decide) hp2.out)
      rw [show (L ++ s.data.toList).length = L.length + s.size by rw [List.length_append, data_len]] at hS
      generalize w2.setCell { block := b, off := 0 } (Value.slice a2 (L.length + s.size) c2) = w3 at hS
      rw [← hL.out, List.append_assoc] at hS
      simpa [lays, textL, hsB.out] using hS
  · have hT := takes_bad b v bad w hW.blk
    have hd := Box.mk (show decide ((s.size : Int) ≤ 65535) = false from decide_eq_false (by omega))
    go_enter Tryz.func115, Tryz.ntmps115
    go_wp2_with fail
    rw [hd.out]
    refine hT.mono ?_
    rintro e w' ⟨rfl, rfl⟩
    go_wp2_with fail
    go_returns
    exact ⟨rfl, by simpa [lays, hs] using WNext.setBad hW (by decide) true⟩
set_option maxHeartbeats 800000 in
set_option maxRecDepth 100000 in
theorem hash_any (b : Nat) (v : Value) (l : List UInt8) (bad : Bool) (s : ByteArray) (w : World) (hW : WAt w b 84 v l bad) (hlen : l.length ≤ 35184372088000) :
    Calls Tryz.prog 34 #[.pointer (some ⟨b, 0, none⟩), .string s] w fun e w' => e = .returned (.tuple #[]) ∧ WNext w b 84 v (lays (decide (s.size = 32)) s.data.toList l bad) (bad || !decide (s.size = 32)) w' := by
  by_cases hs : s.size = 32
  · have hT := takes_fit b v bad w hW.blk
    have hsB := Box.mk hs
    have hse : ((s.size : Int) == 32) = true := by simp; omega
    obtain ⟨a1, c1, rfl⟩ := hW.own.shape
    have k0 : w.cell? ⟨b, 0, none⟩ = some (.slice a1 l.length c1) := hW.blk.cell 0
    have hne := Box.mk (hW.own.apart hW.blk (by decide))
    have hcap : Box (l.length + s.size ≤ 70368744177664) := ⟨by omega⟩
    have hO := Box.mk hW.own
    replace hW := Box.mk hW
    clear hs
    go_enter Tryz.func34, Tryz.ntmps34
    go_wp2_with fail
    refine hT.mono ?_
    rintro e w' ⟨rfl, rfl⟩
    clear hT
    cases bad with
    | true =>
      go_wp2_with fail
      go_returns
      exact ⟨rfl, by simpa [lays] using WNext.same hW.out⟩
    | false =>
      go_wp2_with (refine wpList_pushS rfl (.tmp 13) (.tmp 14) rfl (.slice a1 l.length c1) l rfl hO.out s rfl hcap.out ?_; intro v2 w2 hp2; obtain ⟨a2, c2, rfl⟩ := hp2.own.shape; obtain ⟨k2, k3⟩ := hW.out.after (by decide) hp2; replace hp2 := Box.mk hp2)
      go_returns
      refine ⟨rfl, ?_⟩
      have hS := hW.out.store (by decide) hp2.out
      rw [show (l ++ s.data.toList).length = l.length + s.size by rw [List.length_append, data_len]] at hS
      simpa [lays, hsB.out] using hS
  · have hT := takes_bad b v bad w hW.blk
    have hse : ((s.size : Int) == 32) = false := by simp; omega
    go_enter Tryz.func34, Tryz.ntmps34
    go_wp2_with fail
    refine hT.mono ?_
    rintro e w' ⟨rfl, rfl⟩
    go_wp2_with fail
    go_returns
    exact ⟨rfl, by simpa [lays, hs] using WNext.setBad hW (by decide) true⟩
/-- What a writer's Bytes answers. -/
def bytesR (l : List UInt8) (bad : Bool) : Value := if bad then .tuple #[.string ByteArray.empty, .int .i64 1] else .tuple #[.string ⟨l.toArray⟩, .int .i64 0]
set_option maxHeartbeats 800000 in
set_option maxRecDepth 100000 in
theorem bytes_any (b : Nat) (v : Value) (l : List UInt8) (bad : Bool) (w : World) (hW : WAt w b 84 v l bad) :
    Calls Tryz.prog 35 #[.pointer (some ⟨b, 0, none⟩)] w fun e w' => e = .returned (bytesR l bad) ∧ w = w' := by
  have k0 : w.cell? ⟨b, 0, none⟩ = some v := hW.blk.cell 0
  have k1 : w.cell? ⟨b, 1, none⟩ = some (.bool bad) := hW.blk.cell 1
  have hcv := own_text hW.own
  clear hW
  cases bad with
  | true =>
    go_enter Tryz.func35, Tryz.ntmps35
    go_wp2_with fail
    go_returns
    exact ⟨rfl, rfl⟩
  | false =>
    replace hcv := Box.mk hcv
    go_enter Tryz.func35, Tryz.ntmps35
    go_wp2_with fail
    rw [hcv.out]
    go_wp2_with fail
    go_returns
    exact ⟨rfl, rfl⟩
end Go.Proofs.YthkfefkcjcgfkaaGreatDoor.Pk


/- Walks of a nil reader's calls. -/
namespace Go.Proofs.YthkfefkcjcgfkaaGreatDoor.Pk
open Go.RowKit

set_option maxHeartbeats 400000 in
theorem fail_nil (e : Int) (w : World) :
    Calls Tryz.prog 64 #[.pointer none, .int .i64 e] w fun e w' => e = .returned (.tuple #[]) ∧ w = w' := by
  go_enter Tryz.func64, Tryz.ntmps64
  go_wp2
  go_returns
  exact ⟨rfl, rfl⟩
set_option maxHeartbeats 400000 in
theorem left_nil (w : World) :
    Calls Tryz.prog 28 #[.pointer none] w fun e w' => e = .returned (.int .i64 0) ∧ w = w' := by
  go_enter Tryz.func28, Tryz.ntmps28
  go_wp2
  go_returns
  exact ⟨rfl, rfl⟩
set_option maxHeartbeats 400000 in
theorem err_nil (w : World) :
    Calls Tryz.prog 65 #[.pointer none] w fun e w' => e = .returned (.int .i64 1) ∧ w = w' := by
  go_enter Tryz.func65, Tryz.ntmps65
  go_wp2
  go_returns
  exact ⟨rfl, rfl⟩
set_option maxHeartbeats 400000 in
theorem has_nil (n : Int) (w : World) :
    Calls Tryz.prog 101 #[.pointer none, .int .i64 n] w fun e w' => e = .returned (.bool false) ∧ w = w' := by
  have h1 := left_nil w
  have h2 := fail_nil 2 w
  have h3 := err_nil w
  by_cases h : 0 < n
  · go_enter Tryz.func101, Tryz.ntmps101
    go_wp2_with fail
    refine h1.mono ?_
    rintro e w' ⟨rfl, rfl⟩
    go_wp2_with fail
    refine h2.mono ?_
    rintro e w' ⟨rfl, rfl⟩
    go_wp2_with fail
    refine h3.mono ?_
    rintro e w' ⟨rfl, rfl⟩
    go_wp2_with fail
    go_returns
    exact ⟨rfl, rfl⟩
  · go_enter Tryz.func101, Tryz.ntmps101
    go_wp2_with fail
    refine h1.mono ?_
    rintro e w' ⟨rfl, rfl⟩
    go_wp2_with fail
    refine h3.mono ?_
    rintro e w' ⟨rfl, rfl⟩
    go_wp2_with fail
    go_returns
    exact ⟨rfl, rfl⟩
end Go.Proofs.YthkfefkcjcgfkaaGreatDoor.Pk


/- Walks of a reader's calls, against one model of what they answer. -/
namespace Go.Proofs.YthkfefkcjcgfkaaGreatDoor.Pk
open Go.RowKit

/-- A text by its bytes. -/
def btx (l : List UInt8) : ByteArray := ⟨l.toArray⟩
theorem mk_size (l : List UInt8) : (btx l).size = l.length := rfl
theorem mk_data (s : ByteArray) : btx s.data.toList = s := rfl
theorem mk_list (l : List UInt8) : (btx l).data.toList = l := rfl
theorem mk_cut (l : List UInt8) (a b : Nat) : (btx l).extract a b = btx ((l.take b).drop a) := by
  apply ByteArray.ext
  apply Array.ext'
  rw [ByteArray.data_extract, Array.toList_extract, List.extract_eq_take_drop]
  show (l.drop a).take (b - a) = _
  rw [List.drop_take]; rfl
theorem mk_get (l : List UInt8) (i : Nat) (h : i < (btx l).size) : (btx l)[i] = l.getD i 0 := by
  have h' : i < l.length := h
  show l.toArray[i] = _
  simp [List.getD, h']
/-- The number that these bytes stand for. -/
def numL (l : List UInt8) : Nat := l.foldl (fun n x => n * 256 + x.toNat) 0
theorem numL_snoc (l : List UInt8) (x : UInt8) : numL (l ++ [x]) = numL l * 256 + x.toNat := by simp [numL]
theorem numL_take (l : List UInt8) (i : Nat) (h : i < l.length) : numL (l.take (i + 1)) = numL (l.take i) * 256 + (l.getD i 0).toNat := by
  rw [List.take_succ_eq_append_getElem h, numL_snoc]
  simp [List.getD, h]
theorem numL_lt : ∀ (k : Nat) (l : List UInt8), l.length = k → numL l < 256 ^ k
  | 0, l, h => by
    obtain rfl := List.length_eq_zero_iff.1 h
    decide
  | k + 1, l, h => by
    have h1 := numL_take l k (by omega)
    rw [List.take_of_length_le (by omega)] at h1
    have h2 := numL_lt k (l.take k) (by rw [List.length_take]; omega)
    have h3 := (l.getD k 0).toNat_lt
    rw [h1, Nat.pow_succ]; omega
theorem or_byte (n : Nat) (x : UInt8) : n * 256 ||| x.toNat = n * 256 + x.toNat := by
  have := Nat.two_pow_add_eq_or_of_lt (i := 8) x.toNat_lt n
  rw [show n * 256 = 2 ^ 8 * n by omega, ← this]

/-- A reader in block b. -/
def RAt (w : World) (b : Nat) (t : TypeId) (l : List UInt8) (e : Int) : Prop := Blk w b [.string (btx l), .int .i64 e] t
/-- What a reader's call leaves. -/
structure RNext (w : World) (b : Nat) (t : TypeId) (l : List UInt8) (e : Int) (w' : World) : Prop where
  at_ : RAt w' b t l e
  chg : Chg (fun k => k = b) w w'
theorem RNext.same {w : World} {b : Nat} {t : TypeId} {l : List UInt8} {e : Int} (h : RAt w b t l e) : RNext w b t l e w := ⟨h, Chg.refl _ _⟩
theorem RNext.trans {w w1 w2 : World} {b : Nat} {t : TypeId} {l l2 : List UInt8} {e e2 : Int} (h : RNext w b t l e w1) (k : RNext w1 b t l2 e2 w2) : RNext w b t l2 e2 w2 := ⟨k.at_, h.chg.trans k.chg fun _ _ h => h⟩
theorem RNext.err {w w1 : World} {b : Nat} {t : TypeId} {l : List UInt8} {e : Int} (h : RNext w b t l e w1) (e' : Int) : RNext w b t l e' (w1.setCell ⟨b, 1, none⟩ (.int .i64 e')) := ⟨h.at_.setCell 1 (.int .i64 e'), h.chg.setCell rfl _⟩
theorem RNext.left {w w1 : World} {b : Nat} {t : TypeId} {l : List UInt8} {e : Int} (h : RNext w b t l e w1) (l' : List UInt8) : RNext w b t l' e (w1.setCell ⟨b, 0, none⟩ (.string (btx l'))) := ⟨h.at_.setCell 0 (.string (btx l')), h.chg.setCell rfl _⟩

/-- The first error stays. -/
def failE (e e' : Int) : Int := if e = 0 then e' else e
set_option maxHeartbeats 400000 in
theorem fail_any (b : Nat) (l : List UInt8) (e e' : Int) (w : World) (h : RAt w b 107 l e) :
    Calls Tryz.prog 64 #[.pointer (some ⟨b, 0, none⟩), .int .i64 e'] w fun r w' => r = .returned (.tuple #[]) ∧ RNext w b 107 l (failE e e') w' := by
  have c1 : w.cell? ⟨b, 1, none⟩ = some (.int .i64 e) := h.cell 1
  have f1 := h.free 1
  replace h := Box.mk h
  by_cases h0 : e = 0
  · subst h0
    go_enter Tryz.func64, Tryz.ntmps64
    go_wp2
    go_returns
    exact ⟨rfl, (RNext.same h.out).err e'⟩
  · have h1 : (e == 0) = false := by simpa using h0
    go_enter Tryz.func64, Tryz.ntmps64
    go_wp2
    go_returns
    refine ⟨rfl, ?_⟩
    rw [failE, if_neg h0]
    exact RNext.same h.out
set_option maxHeartbeats 400000 in
theorem left_any (b : Nat) (l : List UInt8) (e : Int) (w : World) (h : RAt w b 107 l e) :
    Calls Tryz.prog 28 #[.pointer (some ⟨b, 0, none⟩)] w fun r w' => r = .returned (.int .i64 (l.length : Int)) ∧ w = w' := by
  have c0 : w.cell? ⟨b, 0, none⟩ = some (.string (btx l)) := h.cell 0
  have hs := mk_size l
  clear h
  go_enter Tryz.func28, Tryz.ntmps28
  go_wp2
  go_returns
  exact ⟨rfl, rfl⟩
set_option maxHeartbeats 400000 in
theorem err_any (b : Nat) (l : List UInt8) (e : Int) (w : World) (h : RAt w b 107 l e) :
    Calls Tryz.prog 65 #[.pointer (some ⟨b, 0, none⟩)] w fun r w' => r = .returned (.int .i64 e) ∧ w = w' := by
  have c0 : w.cell? ⟨b, 1, none⟩ = some (.int .i64 e) := h.cell 1
  clear h
  go_enter Tryz.func65, Tryz.ntmps65
  go_wp2
  go_returns
  exact ⟨rfl, rfl⟩
/-- The error behind asking for n bytes. -/
def hasE (l : List UInt8) (e n : Int) : Int := if (l.length : Int) < n then failE e 2 else e
set_option maxHeartbeats 400000 in
theorem has_any (b : Nat) (l : List UInt8) (e n : Int) (w : World) (h : RAt w b 107 l e) :
    Calls Tryz.prog 101 #[.pointer (some ⟨b, 0, none⟩), .int .i64 n] w fun r w' => r = .returned (.bool (hasE l e n == 0)) ∧ RNext w b 107 l (hasE l e n) w' := by
  have h1 := left_any b l e w h
  have h2 := fail_any b l e 2 w h
  have h3 := err_any b l e w h
  replace h := Box.mk h
  by_cases hlt : (l.length : Int) < n
  · have hE : hasE l e n = failE e 2 := by rw [hasE, if_pos hlt]
    rw [hE]
    replace h2 := Box.mk h2
    go_enter Tryz.func101, Tryz.ntmps101
    go_wp2_with fail
    refine h1.mono ?_
    rintro r w' ⟨rfl, rfl⟩
    go_wp2_with fail
    refine h2.out.mono ?_
    rintro r w' ⟨rfl, hR⟩
    have h4 := err_any b l _ w' hR.at_
    replace hR := Box.mk hR
    go_wp2_with fail
    refine h4.mono ?_
    rintro r w2 ⟨rfl, rfl⟩
    go_wp2_with fail
    go_returns
    exact ⟨rfl, hR.out⟩
  · have hE : hasE l e n = e := by rw [hasE, if_neg hlt]
    rw [hE]
    go_enter Tryz.func101, Tryz.ntmps101
    go_wp2_with fail
    refine h1.mono ?_
    rintro r w' ⟨rfl, rfl⟩
    go_wp2_with fail
    refine h3.mono ?_
    rintro r w2 ⟨rfl, rfl⟩
    go_wp2_with fail
    go_returns
    exact ⟨rfl, RNext.same h.out⟩
set_option maxHeartbeats 400000 in
theorem next_any (b : Nat) (l : List UInt8) (e : Int) (n : Nat) (w : World) (h : RAt w b 107 l e) (hn : n ≤ l.length) :
    Calls Tryz.prog 103 #[.pointer (some ⟨b, 0, none⟩), .int .i64 (n : Int)] w fun r w' => r = .returned (.string (btx (l.take n))) ∧ RNext w b 107 (l.drop n) e w' := by
  have c0 : w.cell? ⟨b, 0, none⟩ = some (.string (btx l)) := h.cell 0
  have f0 := h.free 0
  have hs := mk_size l
  have x1 : (btx l).extract 0 n = btx (l.take n) := by rw [mk_cut]; rfl
  have x2 : (btx l).extract n l.length = btx (l.drop n) := by rw [mk_cut, List.take_of_length_le (Nat.le_refl _)]
  replace h := Box.mk h
  go_enter Tryz.func103, Tryz.ntmps103
  go_wp2_with fail
  go_returns
  exact ⟨rfl, (RNext.same h.out).left _⟩
set_option maxHeartbeats 800000 in
set_option maxRecDepth 100000 in
theorem value_str (s : ByteArray) (w : World) (hl : s.size ≤ 8) :
    Calls Tryz.prog 102 #[.string s] w fun r w' => r = .returned (.int .u64 (numL s.data.toList : Int)) ∧ w = w' := by
  go_enter Tryz.func102, Tryz.ntmps102
  go_wp2_with fail
  go_loopw [3, 7] (fun s3 s7 wr => ∃ i : Nat, i ≤ s.size ∧ s7 = .int .i64 i ∧ s3 = .int .u64 (numL (s.data.toList.take i) : Int) ∧ w = wr) (fun _ s7 _ => s.size - (intOf s7).toNat)
  case atStart => exact ⟨0, by omega, rfl, rfl, rfl⟩
  case round =>
    obtain ⟨i, hi, rfl, rfl, rfl⟩ := hrel
    by_cases hlt : i < s.size
    · obtain ⟨x, hx⟩ : ∃ x, s[i] = x := ⟨_, rfl⟩
      have hst := numL_take s.data.toList i (by rw [data_len]; exact hlt)
      have hgx : s.data.toList.getD i 0 = x := by
        rw [← hx]
        have := mk_get s.data.toList i hlt
        exact this.symm
      rw [hgx] at hst
      obtain ⟨n, hn⟩ : ∃ n, numL (s.data.toList.take i) = n := ⟨_, rfl⟩
      rw [hn] at hst
      have hb := numL_lt i (s.data.toList.take i) (by rw [List.length_take, data_len]; omega)
      rw [hn] at hb
      have hxl := x.toNat_lt
      have hnb : n * 256 + x.toNat < 18446744073709551616 := by
        have h7 : 256 ^ i ≤ 256 ^ 7 := Nat.pow_le_pow_right (by omega) (by omega)
        have : (256 : Nat) ^ 7 = 72057594037927936 := by decide
        omega
      have hor : bits .or .u64 ((n : Int) * 256) (x.toNat : Int) = ((n * 256 + x.toNat : Nat) : Int) := by
        have := u64_or_nat (n * 256) x.toNat (by omega) (by omega)
        rw [or_byte] at this
        exact_mod_cast this
      have hwx : IntKind.u64.wrap (x.toNat : Int) = (x.toNat : Int) := by rw [IntKind.wrap_u64]; omega
      replace hst := Box.mk hst
      clear hgx
      go_wp2_with fail
      exact ⟨⟨i + 1, by omega, by go_num, by rw [hst.out]; exact u_eq (by omega), trivial⟩, by simp [intOf]; omega⟩
    · obtain rfl : i = s.size := by omega
      rw [List.take_of_length_le (by rw [data_len]; exact Nat.le_refl _)]
      go_wp2_with fail
      go_returns
      exact ⟨rfl, rfl⟩
theorem value_any (l : List UInt8) (w : World) (hl : l.length ≤ 8) :
    Calls Tryz.prog 102 #[.string (btx l)] w fun r w' => r = .returned (.int .u64 (numL l : Int)) ∧ w = w' := value_str (btx l) w hl

/-- What a number of k bytes reads: the answer, what is left, the error. -/
def numR (k : Nat) (l : List UInt8) (e : Int) : Int × List UInt8 × Int :=
  if e ≠ 0 then (0, l, e) else if l.length < k then (0, l, 2) else if 9223372036854775807 < numL (l.take k) then (0, l, 3) else ((numL (l.take k) : Int), l.drop k, 0)
set_option maxHeartbeats 800000 in
set_option maxRecDepth 100000 in
theorem rnumber_any (b : Nat) (l : List UInt8) (e : Int) (k : Nat) (w : World) (h : RAt w b 107 l e) (hk : k ≤ 8) :
    Calls Tryz.prog 69 #[.pointer (some ⟨b, 0, none⟩), .int .i64 (k : Int)] w fun r w' => r = .returned (.int .i64 (numR k l e).1) ∧ RNext w b 107 (numR k l e).2.1 (numR k l e).2.2 w' := by
  have h1 := has_any b l e k w h
  by_cases he : e = 0
  · subst he
    by_cases hlt : l.length < k
    · have hE : hasE l 0 k = 2 := by rw [hasE, if_pos (by omega)]; rfl
      have hR : numR k l 0 = (0, l, 2) := by simp [numR, hlt]
      rw [hE] at h1
      rw [hR]
      replace h1 := Box.mk h1
      clear hR hE
      go_enter Tryz.func69, Tryz.ntmps69
      go_wp2_with fail
      refine h1.out.mono ?_
      rintro r w' ⟨rfl, hN⟩
      replace hN := Box.mk hN
      go_wp2_with fail
      go_returns
      exact ⟨rfl, hN.out⟩
    · have hE : hasE l 0 k = 0 := by rw [hasE, if_neg (by omega)]
      rw [hE] at h1
      have hx : (btx l).extract 0 k = btx (l.take k) := by rw [mk_cut]; rfl
      have hs := mk_size l
      obtain ⟨n, hn⟩ : ∃ n, numL (l.take k) = n := ⟨_, rfl⟩
      have hv := fun w => value_any (l.take k) w (by rw [List.length_take]; omega)
      rw [hn] at hv
      have hb := numL_lt k (l.take k) (by rw [List.length_take]; omega)
      rw [hn] at hb
      have hb8 : n < 18446744073709551616 := by
        have h7 : 256 ^ k ≤ 256 ^ 8 := Nat.pow_le_pow_right (by omega) hk
        have : (256 : Nat) ^ 8 = 18446744073709551616 := by decide
        omega
      replace h1 := Box.mk h1
      clear hE hb
      by_cases hbig : 9223372036854775807 < n
      · have hR : numR k l 0 = (0, l, 3) := by simp [numR, hlt, hn, hbig]
        rw [hR]
        clear hR hn
        go_enter Tryz.func69, Tryz.ntmps69
        go_wp2_with fail
        refine h1.out.mono ?_
        rintro r w1 ⟨rfl, hN⟩
        have c0 : w1.cell? ⟨b, 0, none⟩ = some (.string (btx l)) := hN.at_.cell 0
        have hF := fail_any b l 0 3 w1 hN.at_
        replace hN := Box.mk hN
        replace hF := Box.mk hF
        go_wp2_with fail
        refine (hv w1).mono ?_
        rintro r w2 ⟨rfl, rfl⟩
        go_wp2_with fail
        refine hF.out.mono ?_
        rintro r w3 ⟨rfl, hN3⟩
        replace hN3 := Box.mk hN3
        go_wp2_with fail
        go_returns
        exact ⟨rfl, hN.out.trans hN3.out⟩
      · have hR : numR k l 0 = ((n : Int), l.drop k, 0) := by simp [numR, hlt, hn, hbig]
        rw [hR]
        clear hR hn
        have hwn : IntKind.i64.wrap (n : Int) = (n : Int) := by rw [IntKind.wrap_i64]; omega
        go_enter Tryz.func69, Tryz.ntmps69
        go_wp2_with fail
        refine h1.out.mono ?_
        rintro r w1 ⟨rfl, hN⟩
        have c0 : w1.cell? ⟨b, 0, none⟩ = some (.string (btx l)) := hN.at_.cell 0
        have hX := next_any b l 0 k w1 hN.at_ (by omega)
        replace hN := Box.mk hN
        replace hX := Box.mk hX
        go_wp2_with fail
        refine (hv w1).mono ?_
        rintro r w2 ⟨rfl, rfl⟩
        go_wp2_with fail
        refine hX.out.mono ?_
        rintro r w3 ⟨rfl, hN3⟩
        replace hN3 := Box.mk hN3
        go_wp2_with fail
        go_returns
        exact ⟨rfl, hN.out.trans hN3.out⟩
  · have hE : hasE l e k = e := by rw [hasE, failE, if_neg he]; split <;> rfl
    have hR : numR k l e = (0, l, e) := by simp [numR, he]
    have hf : (e == 0) = false := by simpa using he
    rw [hE] at h1
    rw [hR]
    replace h1 := Box.mk h1
    clear hR hE
    go_enter Tryz.func69, Tryz.ntmps69
    go_wp2_with fail
    refine h1.out.mono ?_
    rintro r w' ⟨rfl, hN⟩
    replace hN := Box.mk hN
    go_wp2_with fail
    go_returns
    exact ⟨rfl, hN.out⟩
end Go.Proofs.YthkfefkcjcgfkaaGreatDoor.Pk


/- Walks of a reader's calls: texts, bytes, the end. -/
namespace Go.Proofs.YthkfefkcjcgfkaaGreatDoor.Pk
open Go.RowKit

theorem has_bad (l : List UInt8) (e n : Int) (he : e ≠ 0) : hasE l e n = e := by rw [hasE, failE, if_neg he]; split <;> rfl
theorem has_ok (l : List UInt8) (n : Int) (h : ¬ (l.length : Int) < n) : hasE l 0 n = 0 := by rw [hasE, if_neg h]
theorem has_short (l : List UInt8) (n : Int) (h : (l.length : Int) < n) : hasE l 0 n = 2 := by rw [hasE, if_pos h]; rfl
/-- What n bytes read: the answer, what is left, the error. -/
def rawR (n : Int) (l : List UInt8) (e : Int) : List UInt8 × List UInt8 × Int :=
  if e ≠ 0 then ([], l, e) else if n < 0 then ([], l, 1) else if (l.length : Int) < n then ([], l, 2) else (l.take n.toNat, l.drop n.toNat, 0)
/-- What a text of at most so many bytes reads. -/
def textR (most : Int) (l : List UInt8) (e : Int) : List UInt8 × List UInt8 × Int :=
  if e ≠ 0 then ([], l, e) else if l.length < 2 then ([], l, 2) else if (if most < 0 then 0 else most) < (numL (l.take 2) : Int) then ([], l, 4)
  else if l.length < 2 + numL (l.take 2) then ([], l, 2) else ((l.take (2 + numL (l.take 2))).drop 2, l.drop (2 + numL (l.take 2)), 0)
set_option maxHeartbeats 800000 in
set_option maxRecDepth 100000 in
theorem rraw_any (b : Nat) (l : List UInt8) (e n : Int) (w : World) (h : RAt w b 107 l e) :
    Calls Tryz.prog 98 #[.pointer (some ⟨b, 0, none⟩), .int .i64 n] w fun r w' => r = .returned (.string (btx (rawR n l e).1)) ∧ RNext w b 107 (rawR n l e).2.1 (rawR n l e).2.2 w' := by
  by_cases hn : n < 0
  · have h1 := fail_any b l e 1 w h
    have hR : rawR n l e = ([], l, failE e 1) := by
      by_cases he : e = 0
      · simp [rawR, failE, he, hn]
      · simp [rawR, failE, he]
    rw [hR]
    replace h1 := Box.mk h1
    clear hR
    go_enter Tryz.func98, Tryz.ntmps98
    go_wp2_with fail
    refine h1.out.mono ?_
    rintro r w' ⟨rfl, hN⟩
    replace hN := Box.mk hN
    go_wp2_with fail
    go_returns
    exact ⟨rfl, hN.out⟩
  · obtain ⟨m, rfl⟩ : ∃ m : Nat, n = m := ⟨n.toNat, by omega⟩
    have h1 := has_any b l e m w h
    by_cases he : e = 0
    · subst he
      by_cases hlt : (l.length : Int) < m
      · rw [has_short l m hlt] at h1
        have hR : rawR m l 0 = ([], l, 2) := by simp [rawR, hn, show l.length < m by omega]
        rw [hR]
        replace h1 := Box.mk h1
        clear hR
        go_enter Tryz.func98, Tryz.ntmps98
        go_wp2_with fail
        refine h1.out.mono ?_
        rintro r w' ⟨rfl, hN⟩
        replace hN := Box.mk hN
        go_wp2_with fail
        go_returns
        exact ⟨rfl, hN.out⟩
      · rw [has_ok l m hlt] at h1
        have hR : rawR m l 0 = (l.take m, l.drop m, 0) := by simp [rawR, hn, show ¬ l.length < m by omega]
        rw [hR]
        replace h1 := Box.mk h1
        clear hR
        go_enter Tryz.func98, Tryz.ntmps98
        go_wp2_with fail
        refine h1.out.mono ?_
        rintro r w1 ⟨rfl, hN⟩
        have hX := next_any b l 0 m w1 hN.at_ (by omega)
        replace hN := Box.mk hN
        replace hX := Box.mk hX
        go_wp2_with fail
        refine hX.out.mono ?_
        rintro r w3 ⟨rfl, hN3⟩
        replace hN3 := Box.mk hN3
        go_wp2_with fail
        go_returns
        exact ⟨rfl, hN.out.trans hN3.out⟩
    · have hR : rawR m l e = ([], l, e) := by simp [rawR, he]
      have hf : (e == 0) = false := by simpa using he
      rw [has_bad l e m he] at h1
      rw [hR]
      replace h1 := Box.mk h1
      clear hR
      go_enter Tryz.func98, Tryz.ntmps98
      go_wp2_with fail
      refine h1.out.mono ?_
      rintro r w' ⟨rfl, hN⟩
      replace hN := Box.mk hN
      go_wp2_with fail
      go_returns
      exact ⟨rfl, hN.out⟩
set_option maxHeartbeats 400000 in
theorem rhash_any (b : Nat) (l : List UInt8) (e : Int) (w : World) (h : RAt w b 107 l e) :
    Calls Tryz.prog 61 #[.pointer (some ⟨b, 0, none⟩)] w fun r w' => r = .returned (.string (btx (rawR 32 l e).1)) ∧ RNext w b 107 (rawR 32 l e).2.1 (rawR 32 l e).2.2 w' := by
  have h1 := rraw_any b l e 32 w h
  generalize rawR 32 l e = x at h1 ⊢
  replace h1 := Box.mk h1
  go_enter Tryz.func61, Tryz.ntmps61
  go_wp2_with fail
  refine h1.out.mono ?_
  rintro r w' ⟨rfl, hN⟩
  replace hN := Box.mk hN
  go_wp2_with fail
  go_returns
  exact ⟨rfl, hN.out⟩
set_option maxHeartbeats 400000 in
theorem rbyte_any (b : Nat) (l : List UInt8) (e : Int) (w : World) (h : RAt w b 107 l e) :
    Calls Tryz.prog 36 #[.pointer (some ⟨b, 0, none⟩)] w fun r w' => r = .returned (.int .i64 (numR 1 l e).1) ∧ RNext w b 107 (numR 1 l e).2.1 (numR 1 l e).2.2 w' := by
  have h1 := rnumber_any b l e 1 w h (by omega)
  generalize numR 1 l e = x at h1 ⊢
  replace h1 := Box.mk h1
  go_enter Tryz.func36, Tryz.ntmps36
  go_wp2_with fail
  refine h1.out.mono ?_
  rintro r w' ⟨rfl, hN⟩
  replace hN := Box.mk hN
  go_wp2_with fail
  go_returns
  exact ⟨rfl, hN.out⟩
set_option maxHeartbeats 400000 in
theorem rtwo_any (b : Nat) (l : List UInt8) (e : Int) (w : World) (h : RAt w b 107 l e) :
    Calls Tryz.prog 37 #[.pointer (some ⟨b, 0, none⟩)] w fun r w' => r = .returned (.int .i64 (numR 2 l e).1) ∧ RNext w b 107 (numR 2 l e).2.1 (numR 2 l e).2.2 w' := by
  have h1 := rnumber_any b l e 2 w h (by omega)
  generalize numR 2 l e = x at h1 ⊢
  replace h1 := Box.mk h1
  go_enter Tryz.func37, Tryz.ntmps37
  go_wp2_with fail
  refine h1.out.mono ?_
  rintro r w' ⟨rfl, hN⟩
  replace hN := Box.mk hN
  go_wp2_with fail
  go_returns
  exact ⟨rfl, hN.out⟩
set_option maxHeartbeats 400000 in
theorem rfour_any (b : Nat) (l : List UInt8) (e : Int) (w : World) (h : RAt w b 107 l e) :
    Calls Tryz.prog 60 #[.pointer (some ⟨b, 0, none⟩)] w fun r w' => r = .returned (.int .i64 (numR 4 l e).1) ∧ RNext w b 107 (numR 4 l e).2.1 (numR 4 l e).2.2 w' := by
  have h1 := rnumber_any b l e 4 w h (by omega)
  generalize numR 4 l e = x at h1 ⊢
  replace h1 := Box.mk h1
  go_enter Tryz.func60, Tryz.ntmps60
  go_wp2_with fail
  refine h1.out.mono ?_
  rintro r w' ⟨rfl, hN⟩
  replace hN := Box.mk hN
  go_wp2_with fail
  go_returns
  exact ⟨rfl, hN.out⟩
set_option maxHeartbeats 400000 in
theorem reight_any (b : Nat) (l : List UInt8) (e : Int) (w : World) (h : RAt w b 107 l e) :
    Calls Tryz.prog 38 #[.pointer (some ⟨b, 0, none⟩)] w fun r w' => r = .returned (.int .i64 (numR 8 l e).1) ∧ RNext w b 107 (numR 8 l e).2.1 (numR 8 l e).2.2 w' := by
  have h1 := rnumber_any b l e 8 w h (by omega)
  generalize numR 8 l e = x at h1 ⊢
  replace h1 := Box.mk h1
  go_enter Tryz.func38, Tryz.ntmps38
  go_wp2_with fail
  refine h1.out.mono ?_
  rintro r w' ⟨rfl, hN⟩
  replace hN := Box.mk hN
  go_wp2_with fail
  go_returns
  exact ⟨rfl, hN.out⟩
/-- The end's error. -/
def endE (l : List UInt8) (e : Int) : Int := if 0 < l.length then failE e 3 else e
set_option maxHeartbeats 400000 in
theorem end_any (b : Nat) (l : List UInt8) (e : Int) (w : World) (h : RAt w b 107 l e) :
    Calls Tryz.prog 31 #[.pointer (some ⟨b, 0, none⟩)] w fun r w' => r = .returned (.int .i64 (endE l e)) ∧ RNext w b 107 l (endE l e) w' := by
  have h1 := left_any b l e w h
  have h2 := fail_any b l e 3 w h
  have h3 := err_any b l e w h
  replace h := Box.mk h
  by_cases hlt : 0 < l.length
  · rw [endE, if_pos hlt]
    replace h2 := Box.mk h2
    go_enter Tryz.func31, Tryz.ntmps31
    go_wp2_with fail
    refine h1.mono ?_
    rintro r w' ⟨rfl, rfl⟩
    go_wp2_with fail
    refine h2.out.mono ?_
    rintro r w' ⟨rfl, hR⟩
    have h4 := err_any b l _ w' hR.at_
    replace hR := Box.mk hR
    go_wp2_with fail
    refine h4.mono ?_
    rintro r w2 ⟨rfl, rfl⟩
    go_wp2_with fail
    go_returns
    exact ⟨rfl, hR.out⟩
  · rw [endE, if_neg hlt]
    go_enter Tryz.func31, Tryz.ntmps31
    go_wp2_with fail
    refine h1.mono ?_
    rintro r w' ⟨rfl, rfl⟩
    go_wp2_with fail
    refine h3.mono ?_
    rintro r w2 ⟨rfl, rfl⟩
    go_wp2_with fail
    go_returns
    exact ⟨rfl, RNext.same h.out⟩
set_option maxHeartbeats 1600000 in
set_option maxRecDepth 100000 in
theorem rtext_any (b : Nat) (l : List UInt8) (e most : Int) (w : World) (h : RAt w b 107 l e) :
    Calls Tryz.prog 105 #[.pointer (some ⟨b, 0, none⟩), .int .i64 most] w fun r w' => r = .returned (.string (btx (textR most l e).1)) ∧ RNext w b 107 (textR most l e).2.1 (textR most l e).2.2 w' := by
  have h1 := has_any b l e 2 w h
  by_cases he : e = 0
  · subst he
    by_cases hlt : l.length < 2
    · rw [has_short l 2 (by omega)] at h1
      have hR : textR most l 0 = ([], l, 2) := by simp [textR, hlt]
      rw [hR]
      replace h1 := Box.mk h1
      clear hR
      go_enter Tryz.func105, Tryz.ntmps105
      go_wp2_with fail
      refine h1.out.mono ?_
      rintro r w' ⟨rfl, hN⟩
      replace hN := Box.mk hN
      go_wp2_with fail
      go_returns
      exact ⟨rfl, hN.out⟩
    · rw [has_ok l 2 (by omega)] at h1
      have hx : (btx l).extract 0 2 = btx (l.take 2) := by rw [mk_cut]; rfl
      have hs := mk_size l
      obtain ⟨n, hn⟩ : ∃ n, numL (l.take 2) = n := ⟨_, rfl⟩
      have hv := fun w => value_any (l.take 2) w (by rw [List.length_take]; omega)
      rw [hn] at hv
      have hb := numL_lt 2 (l.take 2) (by rw [List.length_take]; omega)
      rw [hn] at hb
      have hwn : IntKind.i64.wrap (n : Int) = (n : Int) := by rw [IntKind.wrap_i64]; omega
      have hw2 : IntKind.i64.wrap (2 + (n : Int)) = 2 + (n : Int) := by rw [IntKind.wrap_i64]; omega
      obtain ⟨M, hM⟩ : ∃ M, (if most < 0 then 0 else most) = M := ⟨_, rfl⟩
      by_cases hbig : M < n
      · have hR : textR most l 0 = ([], l, 4) := by simp [textR, hlt, hn, hM, hbig]
        rw [hR]
        replace h1 := Box.mk h1
        clear hR hn hb
        go_enter Tryz.func105, Tryz.ntmps105
        go_wp2_with fail
        refine h1.out.mono ?_
        rintro r w1 ⟨rfl, hN⟩
        have c0 : w1.cell? ⟨b, 0, none⟩ = some (.string (btx l)) := hN.at_.cell 0
        have hF := fail_any b l 0 4 w1 hN.at_
        replace hF := Box.mk hF
        replace hN := Box.mk hN
        go_wp2_with fail
        refine (hv w1).mono ?_
        rintro r w2 ⟨rfl, rfl⟩
        go_wp2_with fail
        refine hF.out.mono ?_
        rintro r w3 ⟨rfl, hN3⟩
        replace hN3 := Box.mk hN3
        go_wp2_with fail
        go_returns
        exact ⟨rfl, hN.out.trans hN3.out⟩
      · by_cases hsh : l.length < 2 + n
        · have hR : textR most l 0 = ([], l, 2) := by simp [textR, hlt, hn, hM, hbig, hsh]
          rw [hR]
          replace h1 := Box.mk h1
          clear hR hn hb
          go_enter Tryz.func105, Tryz.ntmps105
          go_wp2_with fail
          refine h1.out.mono ?_
          rintro r w1 ⟨rfl, hN⟩
          have c0 : w1.cell? ⟨b, 0, none⟩ = some (.string (btx l)) := hN.at_.cell 0
          have hF := has_any b l 0 (2 + (n : Int)) w1 hN.at_
          rw [has_short l _ (by omega)] at hF
          replace hF := Box.mk hF
          replace hN := Box.mk hN
          go_wp2_with fail
          refine (hv w1).mono ?_
          rintro r w2 ⟨rfl, rfl⟩
          go_wp2_with fail
          refine hF.out.mono ?_
          rintro r w3 ⟨rfl, hN3⟩
          replace hN3 := Box.mk hN3
          go_wp2_with fail
          go_returns
          exact ⟨rfl, hN.out.trans hN3.out⟩
        · have hR : textR most l 0 = ((l.take (2 + n)).drop 2, l.drop (2 + n), 0) := by simp [textR, hlt, hn, hM, hbig, hsh]
          rw [hR]
          have hs3 : (btx (l.take (2 + n))).size = 2 + n := by rw [mk_size, List.length_take]; omega
          have hx3 : (btx (l.take (2 + n))).extract 2 (2 + n) = btx ((l.take (2 + n)).drop 2) := by rw [mk_cut, List.take_of_length_le (by rw [List.length_take]; omega)]
          replace h1 := Box.mk h1
          clear hR hn hb
          go_enter Tryz.func105, Tryz.ntmps105
          go_wp2_with fail
          refine h1.out.mono ?_
          rintro r w1 ⟨rfl, hN⟩
          have c0 : w1.cell? ⟨b, 0, none⟩ = some (.string (btx l)) := hN.at_.cell 0
          have hF := has_any b l 0 (2 + (n : Int)) w1 hN.at_
          rw [has_ok l _ (by omega)] at hF
          replace hF := Box.mk hF
          replace hN := Box.mk hN
          go_wp2_with fail
          refine (hv w1).mono ?_
          rintro r w2 ⟨rfl, rfl⟩
          go_wp2_with fail
          refine hF.out.mono ?_
          rintro r w3 ⟨rfl, hN3⟩
          have hX := next_any b l 0 (2 + n) w3 hN3.at_ (by omega)
          rw [show ((2 + n : Nat) : Int) = 2 + (n : Int) by omega] at hX
          replace hN3 := Box.mk hN3
          replace hX := Box.mk hX
          go_wp2_with fail
          refine hX.out.mono ?_
          rintro r w4 ⟨rfl, hN4⟩
          replace hN4 := Box.mk hN4
          go_wp2_with fail
          go_returns
          exact ⟨rfl, (hN.out.trans hN3.out).trans hN4.out⟩
  · have hR : textR most l e = ([], l, e) := by simp [textR, he]
    have hf : (e == 0) = false := by simpa using he
    rw [has_bad l e 2 he] at h1
    rw [hR]
    replace h1 := Box.mk h1
    clear hR
    go_enter Tryz.func105, Tryz.ntmps105
    go_wp2_with fail
    refine h1.out.mono ?_
    rintro r w' ⟨rfl, hN⟩
    replace hN := Box.mk hN
    go_wp2_with fail
    go_returns
    exact ⟨rfl, hN.out⟩
end Go.Proofs.YthkfefkcjcgfkaaGreatDoor.Pk

/- Walks of the document's reader, against the same model. -/
namespace Go.Proofs.YthkfefkcjcgfkaaGreatDoor.Pk
open Go.RowKit

end Go.Proofs.YthkfefkcjcgfkaaGreatDoor.Pk


/- Walks of the document's reader: numbers. -/
namespace Go.Proofs.YthkfefkcjcgfkaaGreatDoor.Pk
open Go.RowKit

end Go.Proofs.YthkfefkcjcgfkaaGreatDoor.Pk


/- Walks of the document's reader: numbers. -/
namespace Go.Proofs.YthkfefkcjcgfkaaGreatDoor.Pk
open Go.RowKit

end Go.Proofs.YthkfefkcjcgfkaaGreatDoor.Pk


/- Walks of the document's reader: texts; the two readers made; one call of both. -/
namespace Go.Proofs.YthkfefkcjcgfkaaGreatDoor.Pk
open Go.RowKit

set_option maxHeartbeats 400000 in
theorem read_new (s : ByteArray) (w : World) :
    Calls Tryz.prog 25 #[.string s] w fun e w' => e = .returned (.pointer (some ⟨w.heap.size, 0, none⟩)) ∧ RAt w' w.heap.size 107 s.data.toList 0 ∧ Below w.heap.size w w' := by
  go_enter Tryz.func25, Tryz.ntmps25
  go_wp2
  go_returns
  exact ⟨rfl, Blk.new w [.string s, .int .i64 0] _, (Below.refl _ _).alloc (Nat.le_refl _) _⟩
end Go.Proofs.YthkfefkcjcgfkaaGreatDoor.Pk


/- Walks of the document's writer. -/
namespace Go.Proofs.YthkfefkcjcgfkaaGreatDoor.Pk
open Go.RowKit

end Go.Proofs.YthkfefkcjcgfkaaGreatDoor.Pk


/- Walks of the document's writer: texts, hashes, what it answers; a nil writer. -/
namespace Go.Proofs.YthkfefkcjcgfkaaGreatDoor.Pk
open Go.RowKit

end Go.Proofs.YthkfefkcjcgfkaaGreatDoor.Pk
