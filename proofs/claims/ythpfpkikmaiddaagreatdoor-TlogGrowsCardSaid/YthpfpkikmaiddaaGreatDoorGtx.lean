/- Rows of texts that are made and appended to. | Walk of slices.Concat over texts: its two loops, slices.Grow of nil; (*Log).all's row. | A slice of texts that came in: each is no longer than the form lets a text be. | A slice of texts that came in, with the room behind it: each is no longer than the form lets a text be. -/
import Derived.Deep.Upon
import Derived.SliceStrings
import Derived.SizedLaws
import Derived.OpenShut
import Derived.ChangeMaps5
import Derived.Test.YthpfpkikmaiddaaGreatDoorGtr
import Derived.Test.YthpfpkikmaiddaaGreatDoorGa5
import Derived.Test.YthpfpkikmaiddaaGreatDoorGa1
set_option linter.all false
set_option linter.unusedVariables false
set_option linter.unusedSimpArgs false
namespace Go.Proofs.YthpfpkikmaiddaaGreatDoor
open Go Go.RowKit

theorem info_s : (Tryz.prog.info? 9).map (fun i => (i.zero, i.size, i.bytes)) = some (some (.string ⟨#[]⟩), 1, 16) := by kernel_rfl
/-- v owns a row of these texts, in a block from B on. -/
def TxR (B : Nat) (w : World) (v : Value) (ids : List ByteArray) : Prop := w.ownsRow B 9 1 v ids.length (ids.map Value.string)
theorem TxR.shape {B : Nat} {w : World} {v : Value} {ids : List ByteArray} (h : TxR B w v ids) : ∃ a c, v = .slice a ids.length c := by
  obtain ⟨_, ⟨rfl, h0⟩ | ⟨g, cap, cur, rfl, _⟩⟩ := h
  · exact ⟨none, 0, by rw [h0]⟩
  · exact ⟨_, _, rfl⟩
theorem TxR.parts {B : Nat} {w : World} {v : Value} {ids : List ByteArray} (h : TxR B w v ids) : PartsAt w v ids := by
  have hh := h
  obtain ⟨hx, ⟨rfl, h0⟩ | ⟨g, cap, cur, rfl, b1, hg, b2⟩⟩ := h
  · obtain rfl : ids = [] := List.length_eq_zero_iff.1 h0
    exact ⟨none, 0, rfl, fun h => absurd h (Nat.lt_irrefl 0)⟩
  · refine ⟨_, cap, rfl, fun h0 => ⟨g, 0, rfl, (Array.getElem?_eq_some_iff.1 hg).1, fun i hi => ?_⟩⟩
    have := World.ownsRow.cells (g := g) hh rfl i (.string (ids.getD i ByteArray.empty)) (by simp [hi, List.getD])
    have hadd : (⟨g, 0, none⟩ : Addr).add i = ⟨g, 0 + i, none⟩ := by unfold Addr.add; split <;> simp_all
    rw [hadd] at this; exact this
theorem TxR.here {B : Nat} {w w' : World} {v : Value} {ids : List ByteArray} (h : TxR B w v ids) (hb : Below w.heap.size w w') : TxR B w' v ids := by
  obtain ⟨hx, h0 | ⟨g, cap, cur, rfl, b1, hg, b2⟩⟩ := h
  · exact ⟨hx, .inl h0⟩
  · exact ⟨hx, .inr ⟨g, cap, cur, rfl, b1, (hb.block g (Array.getElem?_eq_some_iff.1 hg).1).trans hg, b2⟩⟩
theorem TxR.base {B C : Nat} {w : World} {v : Value} {ids : List ByteArray} (h : TxR B w v ids) (hC : C ≤ B) : TxR C w v ids := by
  obtain ⟨hx, h0 | ⟨g, cap, cur, rfl, b1, hg, b2⟩⟩ := h
  · exact ⟨hx, .inl h0⟩
  · exact ⟨hx, .inr ⟨g, cap, cur, rfl, Nat.le_trans hC b1, hg, b2⟩⟩
/-- What an append of texts leaves. -/
structure PushedT (B : Nat) (w : World) (v : Value) (ids : List ByteArray) (v' : Value) (w' : World) : Prop where
  row : TxR B w' v' ids
  chg : Pk.Chg (fun i => v.ownBlock = some i) w w'
  place : ∀ k, v'.ownBlock = some k → v.ownBlock = some k ∨ w.heap.size ≤ k
theorem TxR.own {B : Nat} {w : World} {v : Value} {ids : List ByteArray} (h : TxR B w v ids) (k : Nat) (hk : v.ownBlock = some k) : B ≤ k ∧ k < w.heap.size := World.ownsRow.lt h k hk
theorem TxR.of_row {B : Nat} {w : World} {v : Value} {ids : List ByteArray} (h : Pk.Row w 9 1 v ids.length (ids.map Value.string)) (hB : ∀ k, v.ownBlock = some k → B ≤ k) : TxR B w v ids := by
  obtain ⟨hx, h0 | ⟨g, cap, cur, rfl, b1, b2⟩⟩ := h
  · exact ⟨hx, .inl h0⟩
  · exact ⟨hx, .inr ⟨g, cap, cur, rfl, hB g rfl, b2⟩⟩
theorem push_texts (B : Nat) (w : World) (ty : TypeId) (v : Value) (ids zs : List ByteArray) (h : TxR B w v ids) (hB : B ≤ w.heap.size) (a : Option Addr) (m c : Nat) (hm : zs.length = m) (hz : PartsAt w (.slice a m c) zs) (hlen : (ids.length + m) * 16 ≤ 140737488355328) :
    ∃ v' w', (Builtin.append_ #[22, 22] ty #[v, .slice a m c]).run Tryz.prog w = .ok v' w' ∧ PushedT B w v (ids ++ zs) v' w' := by
  obtain ⟨i0, hi, hz0, hz1, hz2⟩ := info_parts info_s
  subst hm
  obtain ⟨a2, c2, e2, hh⟩ := hz.ex
  cases e2
  by_cases h0 : 0 < zs.length
  · obtain ⟨blk, off, rfl, hb, hc⟩ := hh h0
    obtain ⟨v', w', hr, hp⟩ := Pk.push_row (P := Tryz.prog) w 22 ty 9 i0 (.string ⟨#[]⟩) 1 16 Tryz.underlying22 hi hz0 hz1 hz2 rfl (by decide) v ids.length (ids.map Value.string) (TxR.base h (Nat.zero_le _)) ⟨blk, off, none⟩ zs.length c (zs.map Value.string) (by simp)
      (fun j u hj => by
        have hjl : j < zs.length := by
          rcases Nat.lt_or_ge j zs.length with h | h
          · exact h
          · rw [List.getElem?_eq_none (by simpa using h)] at hj; cases hj
        have hadd : (⟨blk, off, none⟩ : Addr).add j = ⟨blk, off + j, none⟩ := by
          unfold Addr.add
          split
          · next h => subst h; rfl
          · rfl
        rw [hadd, hc j hjl, ← hj]
        simp [List.getD, hjl])
      (fun u hu => by simp only [List.mem_map] at hu; obtain ⟨y, _, rfl⟩ := hu; rfl) (by unfold maxLen; omega) hlen
    refine ⟨v', w', hr, ⟨TxR.of_row (by rw [List.length_append, List.map_append]; exact hp.row) fun k hk => ?_, hp.chg, hp.place⟩⟩
    rcases hp.place k hk with h1 | h1
    · exact (h.own k h1).1
    · omega
  · obtain rfl : zs = [] := List.length_eq_zero_iff.1 (by omega)
    obtain ⟨a3, c3, rfl⟩ := h.shape
    have hle : ids.length ≤ c3 := by
      obtain ⟨_, ⟨h1, h2⟩ | ⟨g, cap, cur, h1, _, _, h3, _⟩⟩ := h
      · omega
      · cases h1; exact h3
    have hs : Src Tryz.prog i0.size 22 (.slice a 0 c) 0 [] w := by
      cases a with
      | none => exact Src.ofNil w Tryz.underlying22 c
      | some ad => exact Src.ofSlice w Tryz.underlying22 ad 0 c [] (by simp) (fun j u hu => by simp at hu) (fun u hu => by cases hu)
    have hr := run_append_nothing (P := Tryz.prog) w 22 22 ty 9 i0 Tryz.underlying22 hi a3 ids.length c3 hle (.slice a 0 c) hs
    exact ⟨_, w, hr, ⟨by rw [List.append_nil]; exact h, Pk.Chg.refl _ _, fun k hk => .inl hk⟩⟩
section
variable {w : World} {o : Oper} {a : Act} {Q : Exit → Act → World → Prop}
theorem wp_pushT {K : Act → World → Prop} (s x : Operand) (ho : o.op = .call { callee := .builtin .append, args := #[s, x], argTypes := #[22, 22] }) (B : Nat) (v : Value) (ids zs : List ByteArray) (hs : a.eval s = v)
    (h : TxR B w v ids) (hB : B ≤ w.heap.size) (ad : Option Addr) (m c : Nat) (hx : a.eval x = .slice ad m c) (hm : zs.length = m) (hz : PartsAt w (.slice ad m c) zs) (hlen : (ids.length + m) * 16 ≤ 140737488355328)
    (k : ∀ v' w', PushedT B w v (ids ++ zs) v' w' → K (a.put o.dst v') w') : o.wp Tryz.prog a w K Q := by
  obtain ⟨v', w', hr, hp⟩ := push_texts B w o.type v ids zs h hB ad m c hm hz hlen
  unfold Oper.wp execOp
  simp only [ho, resolve, invoke, builtin, Sem.run_bind, Sem.run_pure, Result.andThen_ok, List.map_toArray, List.map_cons, List.map_nil, hs, hx, hr]
  exact k _ _ hp
theorem wpList_pushT {ops : Array Oper} {rest : List Oper} (hgd : o.guard = none) (s x : Operand) (ho : o.op = .call { callee := .builtin .append, args := #[s, x], argTypes := #[22, 22] }) (B : Nat) (v : Value) (ids zs : List ByteArray) (hs : a.eval s = v)
    (h : TxR B w v ids) (hB : B ≤ w.heap.size) (ad : Option Addr) (m c : Nat) (hx : a.eval x = .slice ad m c) (hm : zs.length = m) (hz : PartsAt w (.slice ad m c) zs) (hlen : (ids.length + m) * 16 ≤ 140737488355328)
    (k : ∀ v' w', PushedT B w v (ids ++ zs) v' w' → wpList Tryz.prog ops Q rest (a.put o.dst v') w') : wpList Tryz.prog ops Q (o :: rest) a w :=
  wpList_plain hgd fun _ hK => wp_pushT s x ho B v ids zs hs h hB ad m c hx hm hz hlen fun v' w' hp => hK _ _ (k v' w' hp)
end
theorem TxR.nil (B : Nat) (w : World) : TxR B w (.slice none 0 0) [] := World.ownsRow_nil _ _ _ _
theorem PushedT.below {B : Nat} {w w' : World} {v v' : Value} {ids zs : List ByteArray} (hp : PushedT B w v zs v' w') (h : TxR B w v ids) : Pk.Chg (fun i => B ≤ i) w w' := hp.chg.mono fun i _ e => (h.own i e).1
theorem TxR.chg {S : Nat → Prop} {B : Nat} {w w' : World} {v : Value} {ids : List ByteArray} (h : TxR B w v ids) (hc : Pk.Chg S w w') (hn : ∀ k, v.ownBlock = some k → ¬ S k) : TxR B w' v ids := by
  obtain ⟨hx, h0 | ⟨g, cap, cur, rfl, b1, hg, b2⟩⟩ := h
  · exact ⟨hx, .inl h0⟩
  · exact ⟨hx, .inr ⟨g, cap, cur, rfl, b1, (hc.block g (Array.getElem?_eq_some_iff.1 hg).1 (hn g rfl)).trans hg, b2⟩⟩
end Go.Proofs.YthpfpkikmaiddaaGreatDoor

namespace Go.Proofs.YthpfpkikmaiddaaGreatDoor.Tg
open Go Go.RowKit

theorem zeroCells_1 (z : Value) (n : Nat) : Builtin.zeroCells #[z] n = (List.replicate n z).toArray := by
  apply Array.ext'
  simp [Builtin.zeroCells, Nat.mod_one, List.map_const']
theorem run_zeros_nil {P : Program} (w : World) (t u ty e : TypeId) (i : TypeInfo) (z : Value) (ht : P.underlying t = some (.slice e)) (hu : P.underlying u = some (.int .i64)) (hi : P.info? e = some i) (hz : i.zero = some z) (hs1 : i.size = 1) (hb1 : i.bytes = 16) (hzc : z.cells = #[z])
    (n : Nat) (h0 : 0 < n) (hn : n ≤ 1000000) :
    (Builtin.append_ #[t, u] ty #[.slice none 0 0, .int .i64 (n : Int)]).run P w =
      .ok (.slice (some ⟨w.heap.size, 0, none⟩) n (grownCap w n 0 e))
        (w.drew.alloc (.cells (Array.replicate (n + (grownCap w n 0 e - n)) z) e)) := by
  have hai : ∀ w, (asInt (.int .i64 (n : Int))).run P w = .ok (n : Int) w := fun _ => rfl
  have hwr : IntKind.i64.wrap (n : Int) = (n : Int) := IntWalk.i64_in _ (by omega)
  have hneg : ¬ ((n : Int) < 0) := by omega
  have hbig : ¬ (281474976710656 < (n : Int) * 16) := by omega
  have hnz : ¬ n = 0 := by omega
  have h63' : ¬ (9223372036854775807 < (n : Int)) := by omega
  have hfit : Builtin.nextslicecap n 0 * 16 ≤ 281474976710656 := growslice_fits (by omega) (by omega)
  have h48' : ¬ (281474976710656 < Builtin.nextslicecap n 0 * 16) := by omega
  have hfc : ∀ w, (Builtin.firstCells 1 0 (.slice none 0 0)).run P w = .ok #[] w := fun w => by simp [Builtin.firstCells]
  simp [Builtin.append_, run_underlying ht, run_underlying hu, sizeOf, typeInfo, zeroValue, hi, hz, hs1, hb1, hai, hwr, hneg, hbig, hnz, h63', h48', Question.forced, newRow, grownCap, hzc, zeroCells_1, hfc]

section
variable {P : Program} {w : World} {ops : Array Oper} {rest : List Oper} {o : Oper} {a : Act} {Q : Exit → Act → World → Prop}
theorem wpList_append_run (hgd : o.guard = none) (s x : Operand) (tys : Array TypeId) (ho : o.op = .call { callee := .builtin .append, args := #[s, x], argTypes := tys }) (v : Value) (w' : World)
    (hr : ∀ ty, (Builtin.append_ tys ty #[a.eval s, a.eval x]).run P w = .ok v w') (k : wpList P ops Q rest (a.put o.dst v) w') : wpList P ops Q (o :: rest) a w :=
  wpList_plain hgd fun _ hK => by
    unfold Oper.wp execOp
    simp only [ho, resolve, invoke, builtin, Sem.run_bind, Sem.run_pure, Result.andThen_ok, List.map_toArray, List.map_cons, List.map_nil, hr]
    exact hK _ _ k
end
/-- slices.Grow of nil: a row of none, with room. -/
def GrowI (w : World) (e : Ending) (w' : World) : Prop := ∃ v, e = .returned v ∧ TxR w.heap.size w' v [] ∧ Below w.heap.size w w'
set_option maxHeartbeats 1600000 in
set_option maxRecDepth 100000 in
theorem grow_nil (n : Nat) (w : World) (hn : n ≤ 1000000) :
    Calls Tryz.prog 140 #[.slice none 0 0, .int .i64 (n : Int)] w (GrowI w) := by
  have hneg : ¬ ((n : Int) < 0) := by omega
  rcases Nat.eq_zero_or_pos n with h0 | h0
  · subst h0
    go_enter Tryz.func140, Tryz.ntmps140
    go_wp2_with fail
    go_ret
    exact ⟨_, rfl, TxR.nil _ _, Below.refl _ _⟩
  · obtain ⟨i0, hi, hz0, hz1, hz2⟩ := info_parts info_s
    have hg0 := fun ty => run_zeros_nil (P := Tryz.prog) w 22 3 ty 9 i0 (.string ⟨#[]⟩) Tryz.underlying22 Tryz.underlying3 hi hz0 hz1 hz2 rfl n h0 hn
    have hge := grownCap_ge w n 0 9
    have hmx := grownCap_le_maxLen w n 0 9 (by unfold maxLen; omega)
    obtain ⟨c, hc⟩ : ∃ c, grownCap w n 0 9 = c := ⟨_, rfl⟩
    rw [hc] at hge hmx
    obtain ⟨w2, hw2⟩ : ∃ w2, w.drew.alloc (.cells (Array.replicate (n + (c - n)) (Value.string ⟨#[]⟩)) 9) = w2 := ⟨_, rfl⟩
    have hB : Box (Below w.heap.size w w2) := ⟨by rw [← hw2]; exact (dB w).alloc (Nat.le_refl _) _⟩
    have hT : Box (TxR w.heap.size w2 (.slice (some ⟨w.heap.size, 0, none⟩) 0 c) []) := ⟨⟨rfl, .inr ⟨w.heap.size, c, Array.replicate (n + (c - n)) (Value.string ⟨#[]⟩), rfl, Nat.le_refl _, by rw [← hw2]; exact heap_alloc_new w.drew _, Nat.zero_le _, hmx, by simp; omega, rfl⟩⟩⟩
    simp only [hc, hw2] at hg0
    have hpos : (n : Int) > 0 := by omega
    replace hg0 := Box.mk hg0
    clear hc hw2 hmx hz0 hz1 hz2 hi
    go_enter Tryz.func140, Tryz.ntmps140
    go_wp2_with (refine wpList_append_run rfl (.tmp 20) (.tmp 21) #[22, 3] rfl _ w2 hg0.out ?_)
    go_ret
    exact ⟨_, rfl, hT.out, hB.out⟩

/-- What Concat answers: a row of its own. -/
def ConI (w : World) (l : List ByteArray) (e : Ending) (w' : World) : Prop := ∃ v, e = .returned v ∧ TxR w.heap.size w' v l ∧ Below w.heap.size w w'
def sz2 (n1 n2 i : Nat) : Nat := if i = 0 then 0 else if i = 1 then n1 else n1 + n2
def ls2 (l1 l2 : List ByteArray) (i : Nat) : List ByteArray := if i = 0 then [] else if i = 1 then l1 else l1 ++ l2
set_option maxHeartbeats 3200000 in
set_option maxRecDepth 100000 in
theorem concat_two (g : Nat) (a1 a2 : Option Addr) (n1 c1 n2 c2 : Nat) (l1 l2 : List ByteArray) (w : World) (h0 : w.cell? ⟨g, 0, none⟩ = some (.slice a1 n1 c1)) (h1 : w.cell? ⟨g, 1, none⟩ = some (.slice a2 n2 c2)) (hg : g < w.heap.size)
    (P1 : PA w a1 n1 c1 l1) (P2 : PA w a2 n2 c2 l2) (hn : n1 + n2 ≤ 1000000) :
    Calls Tryz.prog 87 #[.slice (some ⟨g, 0, none⟩) 2 2] w (ConI w (l1 ++ l2)) := by
  have hG := fun w' => grow_nil (n1 + n2) w' hn
  have hlen1 := P1.len
  have hlen2 := P2.len
  replace P1 := Box.mk P1
  replace P2 := Box.mk P2
  replace hG := Box.mk hG
  replace hlen1 := Box.mk hlen1
  replace hlen2 := Box.mk hlen2
  go_enter Tryz.func87, Tryz.ntmps87
  go_wp2_with fail
  go_loopw [3, 5, 11] (fun s3 _ s11 wr => ∃ i : Nat, i ≤ 2 ∧ s3 = .int .i64 ((sz2 n1 n2 i : Nat) : Int) ∧ s11 = .int .i64 (i : Int) ∧ wr = w) (fun _ _ s11 _ => 2 - (intOf s11).toNat)
  case atStart => exact ⟨0, by omega, rfl, rfl, rfl⟩
  case round =>
    obtain ⟨i, hi, rfl, rfl, rfl⟩ := hrel
    obtain rfl | rfl | rfl : i = 0 ∨ i = 1 ∨ i = 2 := by omega
    · have e0 : sz2 n1 n2 0 = 0 := rfl
      rw [e0]
      go_wp2_with fail
      exact ⟨⟨1, by omega, by show _ = Value.int .i64 (n1 : Int); go_num, by first | rfl | trivial | go_num, by first | rfl | trivial⟩, by simp [intOf]⟩
    · have e0 : sz2 n1 n2 1 = n1 := rfl
      rw [e0]
      go_wp2_with fail
      exact ⟨⟨2, by omega, by show _ = Value.int .i64 ((n1 + n2 : Nat) : Int); go_num, by first | rfl | trivial | go_num, by first | rfl | trivial⟩, by simp [intOf]⟩
    · have e0 : sz2 n1 n2 2 = n1 + n2 := rfl
      rw [e0]
      have hF := hG.out wr
      obtain ⟨m, hm⟩ : ∃ m, n1 + n2 = m := ⟨_, rfl⟩
      rw [hm] at hF ⊢
      replace hm := Box.mk hm
      clear hG e0
      go_wp2_with fail
      refine hF.mono ?_
      clear hF
      rintro e w1 ⟨v, rfl, hT, hB⟩
      have hrel0 : Box (TxR wr.heap.size w1 v (ls2 l1 l2 0) ∧ Below wr.heap.size wr w1) := ⟨hT, hB⟩
      clear hT hB
      go_wp2_with fail
      go_loopw [6, 8, 27] (fun s6 _ s27 wx => ∃ i : Nat, i ≤ 2 ∧ s27 = .int .i64 (i : Int) ∧ Box (TxR wr.heap.size wx s6 (ls2 l1 l2 i) ∧ Below wr.heap.size wr wx)) (fun _ _ s27 _ => 2 - (intOf s27).toNat)
      case atStart => exact ⟨0, by omega, rfl, hrel0⟩
      case round =>
        clear hrel0
        obtain ⟨i, hi, rfl, hR⟩ := hrel
        obtain ⟨ax, cx, rfl⟩ := hR.out.1.shape
        have hgB := Box.mk hg
        have hsz := Box.mk hR.out.2.size
        have d0 := (hR.out.2.cell (p := ⟨g, 0, none⟩) hg).trans h0
        have d1 := (hR.out.2.cell (p := ⟨g, 1, none⟩) hg).trans h1
        obtain rfl | rfl | rfl : i = 0 ∨ i = 1 ∨ i = 2 := by omega
        · have hz := Box.mk (P1.out.here (mono_bel hR.out.2 (Below.refl _ _) (Nat.le_refl _))).parts
          have hlim : Box (((ls2 l1 l2 0).length + n1) * 16 ≤ 140737488355328) := ⟨by show (0 + n1) * 16 ≤ _; omega⟩
          go_wp2_with (refine wpList_pushT rfl (.tmp 31) (.tmp 32) rfl _ _ _ l1 rfl hR.out.1 hsz.out a1 n1 c1 rfl hlen1.out hz.out hlim.out ?_; intro vo w4 hpush)
          exact ⟨⟨1, by omega, by first | rfl | trivial, ⟨hpush.row, hR.out.2.trans ((hpush.below hR.out.1).below hsz.out fun _ h => h)⟩⟩, by simp [intOf]⟩
        · have hz := Box.mk (P2.out.here (mono_bel hR.out.2 (Below.refl _ _) (Nat.le_refl _))).parts
          have hlim : Box (((ls2 l1 l2 1).length + n2) * 16 ≤ 140737488355328) := ⟨by show (l1.length + n2) * 16 ≤ _; have := hlen1.out; omega⟩
          go_wp2_with (refine wpList_pushT rfl (.tmp 31) (.tmp 32) rfl _ _ _ l2 rfl hR.out.1 hsz.out a2 n2 c2 rfl hlen2.out hz.out hlim.out ?_; intro vo w4 hpush)
          exact ⟨⟨2, by omega, by first | rfl | trivial, ⟨hpush.row, hR.out.2.trans ((hpush.below hR.out.1).below hsz.out fun _ h => h)⟩⟩, by simp [intOf]⟩
        · clear d0 d1 h0 h1
          go_wp2_with fail
          go_ret
          exact ⟨_, rfl, hR.out.1, hR.out.2⟩
end Go.Proofs.YthpfpkikmaiddaaGreatDoor.Tg

namespace Go.Proofs.YthpfpkikmaiddaaGreatDoor
open Go Go.ChangeShapes Go.WideShapes Go.ChangeAt Go.RowKit Go.ChangeMaps

theorem weights_strs {H : Type} (P : Program) (e : TypeId) : ∀ (l : List ByteArray) (s : ByteArray), s ∈ l → s.data.toList.length ∈ DataW.weightsAll (H := H) P e (strs l)
  | [], s, h => by cases h
  | x :: l, s, h => by
    show _ ∈ DataW.weights P e (.lit (.string x.data.toList)) ++ DataW.weightsAll P e (strs l)
    rw [List.mem_append]
    rcases List.mem_cons.1 h with rfl | h
    · exact .inl (by simp [DataW.weights])
    · exact .inr (weights_strs P e l s h)
set_option maxRecDepth 100000 in
theorem texts_open {H : Type} {enc : TypeId × Value → H} {W : World} {base : Nat} {v : Value} {d : DataW H} {p : List MemPlace} {ts : List TypeId} {ds : List (DataW H)} {j : Nat}
    (hv : Value.okWide Tryz.prog W .any base 22 v) (h : DataW.Trod enc Tryz.prog W 0 (fun _ => true) true 22 v d p)
    (hz : (DataW.weightsEach Tryz.prog ts ds).all (· ≤ reachBytes) = true) (ht : ts[j]? = some 22) (hd : ds[j]? = some d) :
    ∃ (a : Option Addr) (ps : List ByteArray) (cap : Nat), v = .slice a ps.length cap ∧ PartsAt W (.slice a ps.length cap) ps ∧ ps.length ≤ cap ∧ cap ≤ maxLen ∧ (a = none → cap = 0) ∧ ∀ s ∈ ps, s.size ≤ 140737488351232 := by
  obtain ⟨a0, l0, c0, rfl⟩ := okWide_slice Tryz.underlying22 hv
  obtain ⟨fuel, hf⟩ := h
  rcases open_strings Tryz.underlying22 Tryz.underlying9 (by kernel_rfl) hf with ⟨hcs, hx⟩ | ⟨a, len, cap, ss, hcs, _, hl, hm, hlen, hx, hcell, hsz⟩
  · simp [Value.cells] at hcs
    obtain ⟨rfl, rfl, rfl⟩ := hcs
    exact ⟨none, [], 0, rfl, ⟨none, 0, rfl, fun h => absurd h (Nat.lt_irrefl 0)⟩, Nat.le_refl _, Nat.zero_le _, fun _ => rfl, fun s hs => by cases hs⟩
  · simp [Value.cells] at hcs
    obtain ⟨rfl, rfl, rfl⟩ := hcs
    simp only [if_true] at hlen
    have hde : d = _ := congrArg Prod.fst hx
    subst hde
    have hpl : (ss.take l0).length = l0 := by rw [List.length_take]; omega
    refine ⟨some a, ss.take l0, c0, by rw [hpl], ⟨some a, c0, rfl, fun h0 => ?_⟩, by omega, hm, fun e => (by cases e), fun s hs => ?_⟩
    · rw [hpl] at h0
      have hc0 := hcell 0 (by omega)
      obtain ⟨blk, off, spot⟩ := a
      have hspot : spot = none := by simpa [Addr.add] using World.cell?_spot hc0
      subst hspot
      refine ⟨blk, off, rfl, by simpa [Addr.add] using World.block_lt_of_cell? W _ hc0, fun i hi => ?_⟩
      rw [hpl] at hi
      have hci := hcell i (by omega)
      have hadd : (⟨blk, off, none⟩ : Addr).add i = ⟨blk, off + i, none⟩ := by
        unfold Addr.add
        split
        · next h => subst h; rfl
        · rfl
      rw [hadd] at hci
      rw [hci]
      simp [List.getD, hi]
    · have h1 := DataW.weights_mem_each (P := Tryz.prog) ht hd s.data.toList.length (by
        simp only [DataW.weights, Tryz.underlying22, List.mem_cons, List.mem_append]
        exact .inr (.inl (weights_strs Tryz.prog 9 _ s hs)))
      have h2 := List.all_eq_true.1 hz _ h1
      have h3 : s.data.toList.length ≤ reachBytes := by simpa using h2
      rw [data_len] at h3
      unfold reachBytes at h3
      omega
end Go.Proofs.YthpfpkikmaiddaaGreatDoor

namespace Go.Proofs.YthpfpkikmaiddaaGreatDoor
open Go Go.ChangeShapes Go.WideShapes Go.ChangeAt Go.RowKit Go.ChangeMaps

set_option maxRecDepth 100000 in
theorem texts_all {H : Type} {enc : TypeId × Value → H} {W : World} {base : Nat} {v : Value} {d : DataW H} {p : List MemPlace} {ts : List TypeId} {ds : List (DataW H)} {j : Nat}
    (hv : Value.okWide Tryz.prog W .any base 22 v) (h : DataW.Trod enc Tryz.prog W 0 (fun _ => true) true 22 v d p)
    (hz : (DataW.weightsEach Tryz.prog ts ds).all (· ≤ reachBytes) = true) (ht : ts[j]? = some 22) (hd : ds[j]? = some d) :
    ∃ (a : Option Addr) (ps : List ByteArray) (cap : Nat), v = .slice a ps.length cap ∧ PA W a ps.length cap ps ∧ ∀ s ∈ ps, s.size ≤ 140737488351232 := by
  obtain ⟨a, ps, cap, e, hp, h1, h2, _, hs⟩ := texts_open hv h hz ht hd
  refine ⟨a, ps, cap, e, ⟨rfl, h1, by unfold maxLen at h2; omega, fun h0 => ?_⟩, hs⟩
  obtain ⟨a2, c2, e2, hh⟩ := hp.ex
  cases e2
  exact hh h0
end Go.Proofs.YthpfpkikmaiddaaGreatDoor
