/- Signatures in memory: a slice of them; a row of one's own. -/
import Derived.Test.YtdjppgmaokcgiaaDoorNtB
import Derived.Laws.StructEq
namespace Go.Proofs.YtdjppgmaokcgiaaDoor.Nt
open Go Go.RowKit

/-- A slice of signatures. -/
structure SigsAt (w : World) (v : Value) (sg : List (ByteArray × ByteArray)) : Prop where
  ex : ∃ (a : Option Addr) (cap : Nat), v = .slice a sg.length cap ∧ (0 < sg.length → ∃ blk off, a = some ⟨blk, off, none⟩ ∧ blk < w.heap.size ∧ ∀ i, i < sg.length → w.cell? ⟨blk, off + i * 2, none⟩ = some (.string (sg.getD i default).1) ∧ w.cell? ⟨blk, off + i * 2 + 1, none⟩ = some (.string (sg.getD i default).2))
theorem SigsAt.here {w w' : World} {v : Value} {sg : List (ByteArray × ByteArray)} (h : SigsAt w v sg) (hb : Below w.heap.size w w') : SigsAt w' v sg := by
  obtain ⟨a, cap, rfl, hh⟩ := h.ex
  refine ⟨a, cap, rfl, fun h0 => ?_⟩
  obtain ⟨blk, off, e, hl, hc⟩ := hh h0
  exact ⟨blk, off, e, Nat.lt_of_lt_of_le hl hb.size, fun i hi => ⟨(hb.cell (p := ⟨blk, off + i * 2, none⟩) hl).trans (hc i hi).1, (hb.cell (p := ⟨blk, off + i * 2 + 1, none⟩) hl).trans (hc i hi).2⟩⟩
theorem SigsAt.at {w : World} {a : Option Addr} {n c : Nat} {sg : List (ByteArray × ByteArray)} (h : SigsAt w (.slice a n c) sg) (i : Nat) (hi : i < sg.length) : ∃ blk off, a = some ⟨blk, off, none⟩ ∧ w.cell? ⟨blk, off + i * 2, none⟩ = some (.string (sg.getD i default).1) ∧ w.cell? ⟨blk, off + i * 2 + 1, none⟩ = some (.string (sg.getD i default).2) := by
  obtain ⟨a2, c2, e, hh⟩ := h.ex
  cases e
  obtain ⟨blk, off, rfl, _, hc⟩ := hh (by omega)
  exact ⟨blk, off, rfl, (hc i hi).1, (hc i hi).2⟩
def sigC (x : ByteArray × ByteArray) : List Value := [.string x.1, .string x.2]
theorem row_here {w w' : World} {e : TypeId} {size n : Nat} {v : Value} {xs : List Value} (h : Pk.Row w e size v n xs) (hb : Below w.heap.size w w') : Pk.Row w' e size v n xs := h.kept fun k hk => hb.block k (h.lt k hk)
def sgC (sg : List (ByteArray × ByteArray)) : List Value := sg.flatMap sigC
theorem sgC_snoc (sg : List (ByteArray × ByteArray)) (x : ByteArray × ByteArray) : sgC (sg ++ [x]) = sgC sg ++ sigC x := by simp [sgC]
theorem sgC_get : ∀ (sg : List (ByteArray × ByteArray)) (i : Nat), i < sg.length → (sgC sg)[i * 2]? = some (.string (sg.getD i default).1) ∧ (sgC sg)[i * 2 + 1]? = some (.string (sg.getD i default).2)
  | [], i, h => by simp at h
  | x :: sg, 0, _ => ⟨rfl, rfl⟩
  | x :: sg, i + 1, h => by
    have := sgC_get sg i (by simpa using h)
    have e : sgC (x :: sg) = .string x.1 :: .string x.2 :: sgC sg := rfl
    rw [e, show (i + 1) * 2 = i * 2 + 1 + 1 by omega]
    simpa using this
/-- A row of signatures of one's own. -/
structure SgRow (w0 w : World) (v : Value) (sg : List (ByteArray × ByteArray)) : Prop where
  row : Pk.Row w 39 2 v sg.length (sgC sg)
  own : ∀ k, v.ownBlock = some k → w0.heap.size ≤ k
  bel : Below w0.heap.size w0 w
theorem SgRow.sigs {w0 w : World} {v : Value} {sg : List (ByteArray × ByteArray)} (h : SgRow w0 w v sg) : SigsAt w v sg := by
  obtain ⟨a, c, rfl⟩ := h.row.shape
  refine ⟨a, c, rfl, fun h0 => ?_⟩
  obtain ⟨g, c2, e, hl⟩ := h.row.some h0
  cases e
  refine ⟨g, 0, rfl, hl, fun i hi => ?_⟩
  have h1 := sgC_get sg i hi
  rw [Nat.zero_add]
  exact ⟨h.row.cells _ _ h1.1, h.row.cells _ _ h1.2⟩
theorem SgRow.here {w0 w w' : World} {v : Value} {sg : List (ByteArray × ByteArray)} (h : SgRow w0 w v sg) (hb : Below w.heap.size w w') : SgRow w0 w' v sg := ⟨row_here h.row hb, h.own, mono_bel h.bel hb (Nat.le_refl _)⟩
theorem info_sig : (Tryd.prog.info? 39).map (fun i => (i.zero, i.size, i.bytes)) = some (some (.agg #[.string ByteArray.empty, .string ByteArray.empty]), 2, 32) := by kernel_rfl
theorem SgRow.push {w0 w w2 : World} {v v' : Value} {sg : List (ByteArray × ByteArray)} {x : ByteArray × ByteArray} (h : SgRow w0 w v sg) (hp : Pk.PushedRow w 39 2 v (sg.length + 1) (sgC sg ++ sigC x) v' w2) : SgRow w0 w2 v' (sg ++ [x]) := by
  have hs := h.bel.size
  refine ⟨by rw [sgC_snoc, List.length_append]; exact hp.row, fun k hk => ?_, h.bel.trans (hp.chg.below hs fun i hi => h.own i hi)⟩
  rcases hp.place k hk with h3 | h3
  · exact h.own k h3
  · omega
theorem sgC_length (sg : List (ByteArray × ByteArray)) : (sgC sg).length = sg.length * 2 := by
  induction sg with
  | nil => rfl
  | cons x sg ih =>
    have e : sgC (x :: sg) = .string x.1 :: .string x.2 :: sgC sg := rfl
    rw [e]
    simp [ih]; omega
theorem sgC_append (a b : List (ByteArray × ByteArray)) : sgC (a ++ b) = sgC a ++ sgC b := by simp [sgC]
theorem SigsAt.cells {w : World} {blk off n c : Nat} {zs : List (ByteArray × ByteArray)} (h : SigsAt w (.slice (some ⟨blk, off, none⟩) n c) zs) (j : Nat) (u : Value) (hu : (sgC zs)[j]? = some u) : w.cell? ⟨blk, off + j, none⟩ = some u := by
  have hj : j < zs.length * 2 := by rw [← sgC_length]; exact (List.getElem?_eq_some_iff.1 hu).1
  obtain ⟨a, cc, e, hh⟩ := h.ex
  cases e
  obtain ⟨b2, o2, e2, _, hc⟩ := hh (by omega)
  cases e2
  have hi : j / 2 < zs.length := by omega
  have h1 := hc _ hi
  have h2 := sgC_get zs _ hi
  rcases Nat.mod_two_eq_zero_or_one j with h0 | h0
  · have hj2 : j / 2 * 2 = j := by omega
    rw [hj2] at h1 h2
    rw [h1.1, ← hu, h2.1]
  · have hj2 : j / 2 * 2 + 1 = j := by omega
    rw [Nat.add_assoc, hj2] at h1
    rw [hj2] at h2
    rw [h1.2, ← hu, h2.2]
theorem push_sigs (w : World) (ty : TypeId) (v : Value) (n : Nat) (xs : List Value) (h : Pk.Row w 39 2 v n xs) (a : Option Addr) (m c : Nat) (zs : List (ByteArray × ByteArray)) (hm : zs.length = m) (hz : SigsAt w (.slice a m c) zs) (hlen : (n + m) * 32 ≤ 140737488355328) :
    ∃ v' w', (Builtin.append_ #[31, 31] ty #[v, .slice a m c]).run Tryd.prog w = .ok v' w' ∧ Pk.PushedRow w 39 2 v (n + m) (xs ++ sgC zs) v' w' := by
  obtain ⟨i0, hi, hz0, hz1, hz2⟩ := info_parts info_sig
  subst hm
  obtain ⟨a2, c2, e2, hh⟩ := hz.ex
  cases e2
  by_cases h0 : 0 < zs.length
  · obtain ⟨blk, off, rfl, hb, hc⟩ := hh h0
    exact Pk.push_row (P := Tryd.prog) w 31 ty 39 i0 (.agg #[.string ByteArray.empty, .string ByteArray.empty]) 2 32 Tryd.underlying31 hi hz0 hz1 hz2 rfl (by decide) v n xs h ⟨blk, off, none⟩ zs.length c (sgC zs) (sgC_length zs)
      (fun j u hj => by
        have hadd : (⟨blk, off, none⟩ : Addr).add j = ⟨blk, off + j, none⟩ := by
          unfold Addr.add
          split
          · next h => subst h; rfl
          · rfl
        rw [hadd]
        exact hz.cells j u hj)
      (fun u hu => by
        simp only [sgC, List.mem_flatMap, sigC] at hu
        obtain ⟨y, _, hy⟩ := hu
        rcases List.mem_cons.1 hy with rfl | hy
        · rfl
        · rcases List.mem_cons.1 hy with rfl | hy
          · rfl
          · cases hy) (by unfold maxLen; omega) hlen
  · obtain rfl : zs = [] := List.length_eq_zero_iff.1 (by omega)
    obtain ⟨a3, c3, rfl⟩ := h.shape
    have hle : n ≤ c3 := by
      obtain ⟨_, ⟨h1, h2⟩ | ⟨g, cap, cur, h1, _, _, h3, _⟩⟩ := h
      · omega
      · cases h1; exact h3
    have hs : Src Tryd.prog i0.size 31 (.slice a 0 c) 0 [] w := by
      cases a with
      | none => exact Src.ofNil w Tryd.underlying31 c
      | some ad => exact Src.ofSlice w Tryd.underlying31 ad 0 c [] (by simp) (fun j u hu => by simp at hu) (fun u hu => by cases hu)
    have hr := run_append_nothing (P := Tryd.prog) w 31 31 ty 39 i0 Tryd.underlying31 hi a3 n c3 hle (.slice a 0 c) hs
    exact ⟨_, w, hr, ⟨by simpa [sgC] using h, Pk.Chg.refl _ _, fun k hk => .inl hk⟩⟩
section
variable {w : World} {o : Oper} {a : Act} {Q : Exit → Act → World → Prop}
theorem wp_pushG {K : Act → World → Prop} (s x : Operand) (ho : o.op = .call { callee := .builtin .append, args := #[s, x], argTypes := #[31, 31] }) (v : Value) (n : Nat) (xs : List Value) (hs : a.eval s = v)
    (h : Pk.Row w 39 2 v n xs) (ad : Option Addr) (m c : Nat) (zs : List (ByteArray × ByteArray)) (hx : a.eval x = .slice ad m c) (hm : zs.length = m) (hz : SigsAt w (.slice ad m c) zs) (hlen : (n + m) * 32 ≤ 140737488355328)
    (k : ∀ v' w', Pk.PushedRow w 39 2 v (n + m) (xs ++ sgC zs) v' w' → K (a.put o.dst v') w') : o.wp Tryd.prog a w K Q := by
  obtain ⟨v', w', hr, hp⟩ := push_sigs w o.type v n xs h ad m c zs hm hz hlen
  unfold Oper.wp execOp
  simp only [ho, resolve, invoke, builtin, Sem.run_bind, Sem.run_pure, Result.andThen_ok, List.map_toArray, List.map_cons, List.map_nil, hs, hx, hr]
  exact k _ _ hp
theorem wpList_pushG {ops : Array Oper} {rest : List Oper} (hgd : o.guard = none) (s x : Operand) (ho : o.op = .call { callee := .builtin .append, args := #[s, x], argTypes := #[31, 31] }) (v : Value) (n : Nat) (xs : List Value) (hs : a.eval s = v)
    (h : Pk.Row w 39 2 v n xs) (ad : Option Addr) (m c : Nat) (zs : List (ByteArray × ByteArray)) (hx : a.eval x = .slice ad m c) (hm : zs.length = m) (hz : SigsAt w (.slice ad m c) zs) (hlen : (n + m) * 32 ≤ 140737488355328)
    (k : ∀ v' w', Pk.PushedRow w 39 2 v (n + m) (xs ++ sgC zs) v' w' → wpList Tryd.prog ops Q rest (a.put o.dst v') w') : wpList Tryd.prog ops Q (o :: rest) a w :=
  wpList_plain hgd fun _ hK => wp_pushG s x ho v n xs hs h ad m c zs hx hm hz hlen fun v' w' hp => hK _ _ (k v' w' hp)
end
theorem SgRow.pushL {w0 w w2 : World} {v v' : Value} {sg zs : List (ByteArray × ByteArray)} {m : Nat} (h : SgRow w0 w v sg) (hm : zs.length = m) (hp : Pk.PushedRow w 39 2 v (sg.length + m) (sgC sg ++ sgC zs) v' w2) : SgRow w0 w2 v' (sg ++ zs) := by
  have hs := h.bel.size
  refine ⟨by rw [sgC_append, List.length_append, hm]; exact hp.row, fun k hk => ?_, h.bel.trans (hp.chg.below hs fun i hi => h.own i hi)⟩
  rcases hp.place k hk with h3 | h3
  · exact h.own k h3
  · omega
end Go.Proofs.YtdjppgmaokcgiaaDoor.Nt
