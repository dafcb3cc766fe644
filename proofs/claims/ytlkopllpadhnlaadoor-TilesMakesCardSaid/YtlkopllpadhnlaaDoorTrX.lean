/- Append of one text onto a row: what the old slice reads stays. -/
import Derived.Test.YtlkopllpadhnlaaDoorMTe
import Derived.ArgAppend
namespace Go.Proofs.YtlkopllpadhnlaaDoor
open Go Go.RowKit

theorem push_one (B : Nat) (w : World) (ty : TypeId) (v : Value) (ids : List ByteArray) (x : ByteArray) (h : TxR B w v ids) (hB : B ≤ w.heap.size) (b o c : Nat) (hz : PartsAt w (.slice (some ⟨b, o, none⟩) 1 c) [x]) (hlen : (ids.length + 1) * 16 ≤ 140737488355328) :
    ∃ v' w', (Builtin.append_ #[36, 36] ty #[v, .slice (some ⟨b, o, none⟩) 1 c]).run Tryd.prog w = .ok v' w' ∧ PushedT B w v (ids ++ [x]) v' w' ∧ TxR B w' v ids := by
  obtain ⟨v', w', hr, hp⟩ := push_texts B w ty v ids [x] h hB (some ⟨b, o, none⟩) 1 c rfl hz hlen
  refine ⟨v', w', hr, hp, ?_⟩
  obtain ⟨i0, hi, hz0, hz1, hz2⟩ := info_parts info_s
  have hcell : ∀ j u, ([x].map Value.string)[j]? = some u → w.cell? ((⟨b, o, none⟩ : Addr).add j) = some u := fun j u hj => by
    obtain ⟨a2, c2, e2, hh⟩ := hz.ex
    cases e2
    obtain ⟨b3, o3, e3, _, h4⟩ := hh (by simp)
    cases e3
    match j, hj with
    | 0, hj =>
      have hadd : (⟨b, o, none⟩ : Addr).add 0 = ⟨b, o + 0, none⟩ := by unfold Addr.add; simp
      rw [hadd, h4 0 (by simp)]
      simpa using hj
  have h' := h
  obtain ⟨hx, ⟨rfl, h0⟩ | ⟨g, cap, cur, rfl, b1, hg, b2, b3, b4, b5⟩⟩ := h
  · obtain rfl : ids = [] := List.length_eq_zero_iff.1 h0
    exact TxR.nil _ _
  · by_cases hroom : ids.length + 1 ≤ cap
    · have hlt : ids.length < cur.size := by omega
      have hr2 := run_append_room_cells (P := Tryd.prog) w 36 ty 9 i0 Tryd.underlying36 hi g 0 ids.length cap ⟨b, o, none⟩ 1 c ([x].map Value.string) (by rw [hz1]; rfl) hcell (by simp [Value.oneCell']) hroom
        (fun j hj => by
          obtain rfl : j = 0 := by simpa using hj
          rw [cell_of_row w g _ cur _ (0, 0) hg, hz1, Array.getElem?_eq_getElem (by omega)]; rfl) (fun j _ => frozen_of_row w g _ cur _ hg)
      rw [hr] at hr2
      cases hr2
      obtain ⟨_, ⟨e1, _⟩ | ⟨g2, cap2, cur2, e1, k1, k2, k3, k4, k5, k6⟩⟩ := hp.row
      · cases e1
      · injection e1 with e2 _ e4
        injection e2 with e5
        injection e5 with e6
        subst e6 e4
        refine ⟨hx, .inr ⟨g, cap, cur2, rfl, k1, k2, b2, k4, k5, ?_⟩⟩
        have h4 := congrArg (List.take (ids.length * 1)) k6
        rw [List.take_take, Nat.min_eq_left (by simp), List.map_append, List.take_left' (by simp)] at h4
        exact h4
    · obtain ⟨v2, w2, hr2, _, hgr⟩ := run_append_arg_grows (P := Tryd.prog) w 36 ty 9 i0 (.string ⟨#[]⟩) 1 16 Tryd.underlying36 hi hz0 hz1 hz2 rfl (by decide) ⟨g, 0, none⟩ ids.length cap (ids.map Value.string) hx (World.ownsRow.cells (g := g) h' rfl)
        ⟨b, o, none⟩ 1 c ([x].map Value.string) rfl hcell (by omega) (by unfold maxLen; omega) hlen
      rw [hr] at hr2
      cases hr2
      exact ⟨hx, .inr ⟨g, cap, cur, rfl, b1, (hgr.block g (Array.getElem?_eq_some_iff.1 hg).1 (by simp)).trans hg, b2, b3, b4, b5⟩⟩
section
variable {w : World} {o : Oper} {a : Act} {Q : Exit → Act → World → Prop}
theorem wp_pushK {K : Act → World → Prop} (s x : Operand) (ho : o.op = .call { callee := .builtin .append, args := #[s, x], argTypes := #[36, 36] }) (B : Nat) (v : Value) (ids : List ByteArray) (z : ByteArray) (hs : a.eval s = v)
    (h : TxR B w v ids) (hB : B ≤ w.heap.size) (b off c : Nat) (hx : a.eval x = .slice (some ⟨b, off, none⟩) 1 c) (hz : PartsAt w (.slice (some ⟨b, off, none⟩) 1 c) [z]) (hlen : (ids.length + 1) * 16 ≤ 140737488355328)
    (k : ∀ v' w', PushedT B w v (ids ++ [z]) v' w' → TxR B w' v ids → K (a.put o.dst v') w') : o.wp Tryd.prog a w K Q := by
  obtain ⟨v', w', hr, hp, hk⟩ := push_one B w o.type v ids z h hB b off c hz hlen
  unfold Oper.wp execOp
  simp only [ho, resolve, invoke, builtin, Sem.run_bind, Sem.run_pure, Result.andThen_ok, List.map_toArray, List.map_cons, List.map_nil, hs, hx, hr]
  exact k _ _ hp hk
theorem wpList_pushK {ops : Array Oper} {rest : List Oper} (hgd : o.guard = none) (s x : Operand) (ho : o.op = .call { callee := .builtin .append, args := #[s, x], argTypes := #[36, 36] }) (B : Nat) (v : Value) (ids : List ByteArray) (z : ByteArray) (hs : a.eval s = v)
    (h : TxR B w v ids) (hB : B ≤ w.heap.size) (b off c : Nat) (hx : a.eval x = .slice (some ⟨b, off, none⟩) 1 c) (hz : PartsAt w (.slice (some ⟨b, off, none⟩) 1 c) [z]) (hlen : (ids.length + 1) * 16 ≤ 140737488355328)
    (k : ∀ v' w', PushedT B w v (ids ++ [z]) v' w' → TxR B w' v ids → wpList Tryd.prog ops Q rest (a.put o.dst v') w') : wpList Tryd.prog ops Q (o :: rest) a w :=
  wpList_plain hgd fun _ hK => wp_pushK s x ho B v ids z hs h hB b off c hx hz hlen fun v' w' hp hk => hK _ _ (k v' w' hp hk)
theorem wpList_pushG {ops : Array Oper} {rest : List Oper} (hw : Region.wanted o (yielded ops a.tmps) = true) (s x : Operand) (ho : o.op = .call { callee := .builtin .append, args := #[s, x], argTypes := #[36, 36] }) (B : Nat) (v : Value) (ids : List ByteArray) (z : ByteArray) (hs : a.eval s = v)
    (h : TxR B w v ids) (hB : B ≤ w.heap.size) (b off c : Nat) (hx : a.eval x = .slice (some ⟨b, off, none⟩) 1 c) (hz : PartsAt w (.slice (some ⟨b, off, none⟩) 1 c) [z]) (hlen : (ids.length + 1) * 16 ≤ 140737488355328)
    (k : ∀ v' w', PushedT B w v (ids ++ [z]) v' w' → TxR B w' v ids → wpList Tryd.prog ops Q rest (a.put o.dst v') w') : wpList Tryd.prog ops Q (o :: rest) a w :=
  wpList_step fun _ hK => by rw [if_pos hw]; exact wp_pushK s x ho B v ids z hs h hB b off c hx hz hlen fun v' w' hp hk => hK _ _ (k v' w' hp hk)
end
/-- A list's own consistency proof is taken; with a hash more, or one fewer, it isn't. -/
theorem con_own (l : List ByteArray) (m n : Nat) (hl : l.length = n) (hm : m ≤ n) :
    conE l m = 0 ∧ cosE m n (conL l m) (rootL (l.take m)) (rootL l) = 0 ∧ (∀ x, cosE m n (conL l m ++ [x]) (rootL (l.take m)) (rootL l) = 11) ∧ (0 < (conL l m).length → cosE m n ((conL l m).take ((conL l m).length - 1)) (rootL (l.take m)) (rootL l) = 11) := by
  have h0 : conE l m = 0 := by unfold conE; rw [if_pos ⟨by omega, by omega⟩]
  have hif : (0 : Int) ≤ (m : Int) ∧ (m : Int) ≤ (n : Int) := ⟨by omega, by omega⟩
  refine ⟨h0, ?_⟩
  unfold cosE
  simp only [if_pos hif, Int.toNat_natCast]
  by_cases hz : m = 0
  · subst hz
    have hc : conL l ((0 : Nat) : Int) = [] := by unfold conL; rw [if_neg (by omega)]
    rw [hc]
    unfold cosB
    by_cases hn : (0 : Nat) = n
    · obtain rfl : l = [] := List.length_eq_zero_iff.1 (by omega)
      subst hn
      simp [errB]
    · simp [hn, errB, rootL_nil]
  · have hc : conL l (m : Int) = partL m l true := by unfold conL; rw [if_pos ⟨by omega, by omega⟩, Int.toNat_natCast]
    rw [hc]
    obtain ⟨h1, h2⟩ := part_steps n l m true hl (by omega) hm
    unfold cosB
    by_cases hmn : m = n
    · subst hmn
      rw [partL_all m l true hl.symm, List.take_of_length_le (by omega)]
      simp [errB]
    · simp only [if_neg hmn, if_neg hz]
      refine ⟨by simp [h1, h2, errB], fun x => by simp [h1, errB], fun h => ?_⟩
      have : ¬ (List.take ((partL m l true).length - 1) (partL m l true)).length = wants m n true := by
        rw [List.length_take, Nat.min_eq_left (by omega), h1]; omega
      simp only [decide_eq_false (fun h => this (And.left h))]
      rfl
/-- The like for a place. -/
theorem inc_own (l : List ByteArray) (i n : Nat) (hl : l.length = n) (hi : i < n) :
    incE l i = 0 ∧ incdE (l.getD i ByteArray.empty) i n (incL l i) (rootL l) = 0 ∧ (∀ x, incdE (l.getD i ByteArray.empty) i n (incL l i ++ [x]) (rootL l) = 11) ∧ (0 < (incL l i).length → incdE (l.getD i ByteArray.empty) i n ((incL l i).take ((incL l i).length - 1)) (rootL l) = 11) := by
  have hif : (0 : Int) ≤ (i : Int) ∧ (i : Int) < (n : Int) := ⟨by omega, by omega⟩
  have hc : incL l (i : Int) = placeL l i := by unfold incL; rw [hl, if_pos hif, Int.toNat_natCast]
  obtain ⟨h1, h2⟩ := place_sides n l i hl hi
  refine ⟨by unfold incE; rw [hl, if_pos hif], ?_⟩
  rw [hc]
  unfold incdE
  simp only [if_pos hif, Int.toNat_natCast]
  refine ⟨by rw [decide_eq_true (And.intro h1 h2)]; rfl, fun x => by simp [h1, errB], fun h => ?_⟩
  have : ¬ (List.take ((placeL l i).length - 1) (placeL l i)).length = (sides i n).length := by
    rw [List.length_take, Nat.min_eq_left (by omega), h1]; omega
  simp only [decide_eq_false (fun h => this (And.left h))]
  rfl
end Go.Proofs.YtlkopllpadhnlaaDoor
