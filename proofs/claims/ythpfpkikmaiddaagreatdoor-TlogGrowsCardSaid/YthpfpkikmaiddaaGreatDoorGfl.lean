/- FlA FlB FlC FlD FlE FlF FlG FlH FlI, in one text, in a namespace of their own. -/
import Derived.Deep.MidRow
import Derived.Laws.OwnMore
import Derived.Lib.LazyBuf
import Derived.Great.BuildSlice
import Derived.RangeFuncBox
import Derived.RangeFuncLeaves
import Derived.Shelf.Abstract
import Derived.TacticsInMore
import Derived.LoopNIn
import Derived.LoopIn
import Derived.Test.YthpfpkikmaiddaaGreatDoorGkr
import Derived.Test.YthpfpkikmaiddaaGreatDoorGfm
import Derived.Test.YthpfpkikmaiddaaGreatDoorGa5
set_option linter.all false
set_option linter.unusedVariables false
set_option linter.unusedSimpArgs false
/- Cells laid over a part of a row or a block: a store of an aggregate, a copy out of a row or a text; a part loaded as an aggregate. No function of the program is named. -/
namespace Go.Proofs.YthpfpkikmaiddaaGreatDoor.Pk
open Go.RowKit

/-- A row with other cells laid over it from a place on. -/
def spl {α : Type} (L : List α) (off : Nat) (cs : List α) : List α := L.take off ++ (cs ++ L.drop (off + cs.length))
theorem spl_length {α : Type} (L : List α) (off : Nat) (cs : List α) (h : off + cs.length ≤ L.length) : (spl L off cs).length = L.length := by
  simp [spl]; omega
theorem spl_take {α : Type} (L : List α) (off : Nat) (cs : List α) (N : Nat) (h : off + cs.length ≤ N) : (spl L off cs).take N = spl (L.take N) off cs := by
  rcases Nat.lt_or_ge L.length (off + cs.length) with h1 | h1
  · unfold spl
    rw [List.take_take, Nat.min_eq_left (by omega), List.drop_of_length_le (by omega), List.drop_of_length_le (by simp; omega), List.take_of_length_le]
    simp; omega
  · unfold spl
    rw [List.take_append, List.take_append, List.take_take, List.take_take, Nat.min_eq_left (show off ≤ N by omega), List.length_take, Nat.min_eq_left (show off ≤ L.length by omega), Nat.min_eq_right (show off ≤ N by omega),
      List.take_of_length_le (show cs.length ≤ N - off by omega), List.drop_take, show N - off - cs.length = N - (off + cs.length) by omega]
theorem setRow_chg (w : World) (g : Nat) (cs : Array Value) : Chg (fun k => k = g) w (w.setRow g cs) := ⟨rfl, rfl, rfl, by simp [World.setRow], fun k _ hn => setRow_other w g k cs hn⟩

/-- Block g holds at least L, cells of type e; nothing of it is frozen. -/
structure Hold (w : World) (g : Nat) (e : TypeId) (L : List Value) : Prop where
  out : ∃ more : List Value, w.heap[g]? = some (.cells (L ++ more).toArray e (0, 0))
theorem Hold.cell {w : World} {g : Nat} {e : TypeId} {L : List Value} (h : Hold w g e L) (i : Nat) (hi : i < L.length) : w.cell? ⟨g, i, none⟩ = some L[i] := by
  obtain ⟨more, hg⟩ := h.out
  rw [cell_of_row w g i _ e _ hg]; simp [List.getElem?_append_left hi, hi]
theorem Hold.range {w : World} {g : Nat} {e : TypeId} {L : List Value} (h : Hold w g e L) (o m : Nat) : w.rangeAt g o ((L.drop o).take m) := fun j v hv => by
  rw [List.getElem?_take] at hv
  split at hv
  · rw [List.getElem?_drop] at hv
    obtain ⟨hl, rfl⟩ := List.getElem?_eq_some_iff.1 hv
    exact h.cell _ hl
  · cases hv
theorem Hold.lt {w : World} {g : Nat} {e : TypeId} {L : List Value} (h : Hold w g e L) : g < w.heap.size := by
  obtain ⟨more, hg⟩ := h.out
  exact (Array.getElem?_eq_some_iff.1 hg).1
theorem Hold.chg {S : Nat → Prop} {w w' : World} {g : Nat} {e : TypeId} {L : List Value} (h : Hold w g e L) (hc : Chg S w w') (hn : ¬ S g) : Hold w' g e L := by
  obtain ⟨more, hg⟩ := h.out
  exact ⟨more, (hc.block g h.lt hn).trans hg⟩
theorem Hold.of_blk {w : World} {g : Nat} {e : TypeId} {L : List Value} (h : Blk w g L e) : Hold w g e L := ⟨[], by rw [List.append_nil]; exact h⟩
theorem Hold.of_row {w : World} {e : TypeId} {size n c g : Nat} {xs : List Value} (h : Row w e size (.slice (some ⟨g, 0, none⟩) n c) n xs) : Hold w g e xs := by
  obtain ⟨hl, ⟨h1, _⟩ | ⟨g1, cap, cur, h1, _, hg, hnc, _, hcs, ht⟩⟩ := h
  · cases h1
  · cases h1
    refine ⟨cur.toList.drop (n * size), ?_⟩
    rw [← ht, List.take_append_drop, Array.toArray_toList]; exact hg
theorem row_of_hold {w w' : World} {e : TypeId} {size n c g : Nat} {xs ys : List Value} (h : Row w e size (.slice (some ⟨g, 0, none⟩) n c) n xs) (hl : ys.length = xs.length) (o : Nat) (vs : List Value) (hfit : o + vs.length ≤ xs.length) (hy : ys = spl xs o vs)
    (hw : ∀ cur : Array Value, w.heap[g]? = some (.cells cur e (0, 0)) → w'.heap[g]? = some (.cells (spl cur.toList o vs).toArray e (0, 0))) : Row w' e size (.slice (some ⟨g, 0, none⟩) n c) n ys := by
  obtain ⟨h0, ⟨h1, _⟩ | ⟨g1, cap, cur, h1, hb, hg, hnc, hm, hcs, ht⟩⟩ := h
  · cases h1
  · cases h1
    have hle : n * size ≤ c * size := Nat.mul_le_mul_right _ hnc
    refine ⟨by rw [hl, h0], .inr ⟨g, c, _, rfl, hb, hw cur hg, hnc, hm, ?_, ?_⟩⟩
    · have hcl : cur.toList.length = cur.size := Array.length_toList
      rw [List.size_toArray, spl_length _ _ _ (by omega), hcl]; exact hcs
    · rw [spl_take _ _ _ _ (by omega), ht]; exact hy.symm

section
variable {P : Program} {w : World} {ops : Array Oper} {rest : List Oper} {o : Oper} {a : Act} {Q : Exit → Act → World → Prop}
/-- What is known behind cells laid over a part of what a block holds. -/
structure Laid (w : World) (g : Nat) (e : TypeId) (L : List Value) (off : Nat) (vs : List Value) (w' : World) : Prop where
  hold : Hold w' g e (spl L off vs)
  row : ∀ size n c, Row w e size (.slice (some ⟨g, 0, none⟩) n c) n L → Row w' e size (.slice (some ⟨g, 0, none⟩) n c) n (spl L off vs)
  blk : Blk w g L e → Blk w' g (spl L off vs) e
  chg : Chg (fun k => k = g) w w'
theorem laid_all {w : World} {g : Nat} {e : TypeId} {L more : List Value} (hg : w.heap[g]? = some (.cells (L ++ more).toArray e (0, 0))) (off : Nat) (vs : List Value) (hfit : off + vs.length ≤ L.length) :
    Laid w g e L off vs (w.setRow g ((L ++ more).take off ++ vs ++ (L ++ more).drop (off + vs.length)).toArray) := by
  have e0 : (L ++ more).take off ++ vs ++ (L ++ more).drop (off + vs.length) = spl L off vs ++ more := by
    rw [List.drop_append_of_le_length hfit, List.take_append_of_le_length (by omega)]; simp [spl]
  rw [e0]
  have hnew := setRow_heap w g _ (spl L off vs ++ more).toArray e _ hg
  refine ⟨⟨more, hnew⟩, fun size n c hr => ?_, fun hb => ?_, setRow_chg _ _ _⟩
  · refine row_of_hold hr (spl_length _ _ _ hfit) off vs hfit rfl fun cur hc => ?_
    rw [hg] at hc
    simp at hc
    rw [hnew, ← hc, ← e0]
    simp [spl]
  · unfold Blk at hb ⊢
    rw [hg] at hb
    simp at hb
    rw [hnew, hb, List.append_nil]
/-- A store of an aggregate over a part of what a block holds. -/
theorem run_storeH (g off : Nat) (e ty : TypeId) (L vs : List Value) (h : Hold w g e L) (hfit : off + vs.length ≤ L.length) (h1 : ∀ v ∈ vs, v.oneCell' = true) (hi : (P.info? ty).map (·.size) = some vs.length) :
    ∃ w', (storeVar ty ⟨g, off, none⟩ (.agg vs.toArray)).run P w = .ok () w' ∧ Laid w g e L off vs w' := by
  obtain ⟨more, hg⟩ := h.out
  have hr := run_storeCells_at P g off e vs 0 (L ++ more).toArray w hg (by simp; omega) h1
  simp only [Nat.add_zero] at hr
  refine ⟨_, ?_, laid_all hg off vs hfit⟩
  cases hq : P.info? ty with
  | none => simp [hq] at hi
  | some i =>
    have hs : vs.length = i.size := by simp [hq] at hi; omega
    simp [storeVar, sizeOf, typeInfo, hq, Value.cells, hs]
    simpa [hs] using hr
theorem wp_storeH {K : Act → World → Prop} (ty : TypeId) (x y : Operand) (ho : o.op = .store ty x y) (g off : Nat) (e : TypeId) (L vs : List Value) (hx : a.eval x = .pointer (some ⟨g, off, none⟩)) (hy : a.eval y = .agg vs.toArray)
    (h : Hold w g e L) (hfit : off + vs.length ≤ L.length) (h1 : ∀ v ∈ vs, v.oneCell' = true) (hi : (P.info? ty).map (·.size) = some vs.length)
    (k : ∀ w', Laid w g e L off vs w' → K (a.put o.dst undef) w') : o.wp P a w K Q := by
  obtain ⟨w', hr, hl⟩ := run_storeH (P := P) g off e ty L vs h hfit h1 hi
  unfold Oper.wp execOp
  simp only [ho, hx, hy, Instr.storeAt, Instr.sureAddr, Sem.run_bind, Sem.run_pure, Result.andThen_ok, hr]
  exact k _ hl
theorem wpList_storeH (hgd : o.guard = none) (ty : TypeId) (x y : Operand) (ho : o.op = .store ty x y) (g off : Nat) (e : TypeId) (L vs : List Value) (hx : a.eval x = .pointer (some ⟨g, off, none⟩)) (hy : a.eval y = .agg vs.toArray)
    (h : Hold w g e L) (hfit : off + vs.length ≤ L.length) (h1 : ∀ v ∈ vs, v.oneCell' = true) (hi : (P.info? ty).map (·.size) = some vs.length)
    (k : ∀ w', Laid w g e L off vs w' → wpList P ops Q rest (a.put o.dst undef) w') : wpList P ops Q (o :: rest) a w :=
  wpList_plain hgd fun _ hK => wp_storeH ty x y ho g off e L vs hx hy h hfit h1 hi fun w' hl => hK _ _ (k w' hl)
/-- copy of cells that lie somewhere over a part of what a block holds. -/
theorem run_copyH (dT sT ty elem : TypeId) (hu : P.underlying dT = some (.slice elem)) (hs : (P.info? elem).map (·.size) = some 1) (g off dLen dCap g2 o2 sLen sCap : Nat) (e : TypeId) (L vs : List Value) (h : Hold w g e L)
    (hn : vs.length = Nat.min sLen dLen) (hsrc : w.rangeAt g2 o2 vs) (hfit : off + vs.length ≤ L.length) (h1 : ∀ v ∈ vs, v.oneCell' = true) :
    ∃ w', (Builtin.copy_ #[dT, sT] ty #[.slice (some ⟨g, off, none⟩) dLen dCap, .slice (some ⟨g2, o2, none⟩) sLen sCap]).run P w = .ok (goInt vs.length) w' ∧ Laid w g e L off vs w' := by
  obtain ⟨more, hg⟩ := h.out
  have hr := run_copy_row (P := P) w dT sT ty elem g off dLen dCap ⟨g2, o2, none⟩ sLen sCap _ e vs hu hs hg hn (fun j v hv => by rw [Addr.add_mid]; exact hsrc j v hv) (by simp; omega) h1
  exact ⟨_, by simpa using hr, by simpa using laid_all hg off vs hfit⟩
/-- copy of a text that fits. -/
theorem run_copyT (dT sT ty elem : TypeId) (hu : P.underlying dT = some (.slice elem)) (hs : (P.info? elem).map (·.size) = some 1) (g off dLen dCap : Nat) (t : ByteArray) (e : TypeId) (L : List Value) (h : Hold w g e L)
    (hle : t.size ≤ dLen) (hfit : off + t.size ≤ L.length) :
    ∃ w', (Builtin.copy_ #[dT, sT] ty #[.slice (some ⟨g, off, none⟩) dLen dCap, .string t]).run P w = .ok (goInt t.size) w' ∧ Laid w g e L off (t.data.toList.map yc) w' := by
  have hl : (t.data.toList.map yc).length = t.size := by rw [List.length_map, data_len]
  obtain ⟨more, hg⟩ := h.out
  have hst := run_storeCells_at P g off e (t.data.toList.map yc) 0 (L ++ more).toArray w hg (by rw [hl]; simp; omega) (by
    intro v hv; simp only [List.mem_map] at hv; obtain ⟨x, _, rfl⟩ := hv; rfl)
  simp only [Nat.add_zero] at hst
  refine ⟨_, ?_, laid_all hg off _ (by rw [hl]; exact hfit)⟩
  have hmin : Nat.min t.size dLen = t.size := Nat.min_eq_left hle
  cases hq : P.info? elem with
  | none => simp [hq] at hs
  | some i =>
    have htk : List.take t.size (List.map (fun b : UInt8 => Value.int IntKind.u8 (b.toNat : Int)) t.data.toList) = t.data.toList.map yc := by
      rw [List.take_of_length_le (by rw [List.length_map, data_len]; exact Nat.le_refl _)]; rfl
    simp [Builtin.copy_, run_underlying hu, Builtin.lenOf, Builtin.firstCells, sizeOf, typeInfo, hq, hmin]
    rw [htk]
    simp at hst
    rw [hst]
    simp [Result.andThen]
theorem wpList_copyT (hgd : o.guard = none) (d s : Operand) (dT sT elem : TypeId) (ho : o.op = .call { callee := .builtin .copy, args := #[d, s], argTypes := #[dT, sT] })
    (hu : P.underlying dT = some (.slice elem)) (hs : (P.info? elem).map (·.size) = some 1) (g off dLen dCap : Nat) (t : ByteArray) (e : TypeId) (L : List Value) (hd : a.eval d = .slice (some ⟨g, off, none⟩) dLen dCap) (hx : a.eval s = .string t)
    (h : Hold w g e L) (hle : t.size ≤ dLen) (hfit : off + t.size ≤ L.length)
    (k : ∀ w', Laid w g e L off (t.data.toList.map yc) w' → wpList P ops Q rest (a.put o.dst (goInt t.size)) w') : wpList P ops Q (o :: rest) a w := by
  refine wpList_plain hgd fun K hK => ?_
  obtain ⟨w', hr, hl⟩ := run_copyT (P := P) dT sT o.type elem hu hs g off dLen dCap t e L h hle hfit
  unfold Oper.wp execOp
  simp only [ho, resolve, invoke, builtin, Sem.run_bind, Sem.run_pure, Result.andThen_ok, List.map_toArray, List.map_cons, List.map_nil, hd, hx, hr]
  exact hK _ _ (k w' hl)
end
theorem yc_one (l : List UInt8) : ∀ v ∈ l.map yc, v.oneCell' = true := by
  intro v hv; simp only [List.mem_map] at hv; obtain ⟨x, _, rfl⟩ := hv; rfl
end Go.Proofs.YthpfpkikmaiddaaGreatDoor.Pk


/- The program's device in memory; its small calls. -/
namespace Go.Proofs.YthpfpkikmaiddaaGreatDoor.Pk
open Go.RowKit

def Wr.cells (x : Wr) : List Value := .int .i64 (x.at' : Int) :: (x.bef.map yc ++ x.aft.map yc)
def secCells (s : List Sec) : List Value := s.flatMap fun x => x.map yc
def wrCells (l : List Wr) : List Value := l.flatMap Wr.cells
/-- A device in block bd; all that is its own lies in F. -/
structure DAt (w : World) (bd : Nat) (F : Nat → Prop) (D : Dev) : Prop where
  ok : D.ok
  out : ∃ vs vp, Blk w bd [vs, vp, .int .i64 (D.taken : Int), .int .i64 (D.fall : Int), .bool D.off] 75 ∧ Row w 93 64 vs D.safe.length (secCells D.seen) ∧ Row w 95 129 vp D.ws.length (wrCells (pendW D.safe D.ws)) ∧ (∀ k, vs.ownBlock = some k → F k) ∧ (∀ k, vp.ownBlock = some k → F k)
  fd : F bd
  lt : ∀ k, F k → k < w.heap.size
theorem DAt.chg {S : Nat → Prop} {w w' : World} {bd : Nat} {F : Nat → Prop} {D : Dev} (h : DAt w bd F D) (hc : Chg S w w') (hn : ∀ k, F k → ¬ S k) : DAt w' bd F D := by
  obtain ⟨vs, vp, hb, hs, hp, h1, h2⟩ := h.out
  exact ⟨h.ok, ⟨vs, vp, hc.blk hb (hn _ h.fd), hs.chg hc fun k hk => hn k (h1 k hk), hp.chg hc fun k hk => hn k (h2 k hk), h1, h2⟩, h.fd, fun k hk => Nat.lt_of_lt_of_le (h.lt k hk) hc.size⟩
theorem DAt.below {w w' : World} {bd : Nat} {F : Nat → Prop} {D : Dev} (h : DAt w bd F D) (hb : Below w.heap.size w w') : DAt w' bd F D := h.chg (Chg.of_below hb) fun k hk => by have := h.lt k hk; omega
/-- What a call of a device leaves. -/
structure DNext (w : World) (bd : Nat) (F : Nat → Prop) (D : Dev) (w' : World) : Prop where
  at_ : DAt w' bd (fun k => F k ∨ (w.heap.size ≤ k ∧ k < w'.heap.size)) D
  chg : Chg F w w'
theorem DAt.wide {w : World} {bd : Nat} {F G : Nat → Prop} {D : Dev} (h : DAt w bd F D) (hG : ∀ k, F k → G k) (hl : ∀ k, G k → k < w.heap.size) : DAt w bd G D := by
  obtain ⟨vs, vp, hb, hs, hp, h1, h2⟩ := h.out
  exact ⟨h.ok, ⟨vs, vp, hb, hs, hp, fun k hk => hG k (h1 k hk), fun k hk => hG k (h2 k hk)⟩, hG _ h.fd, hl⟩
theorem DNext.same {w : World} {bd : Nat} {F : Nat → Prop} {D : Dev} (h : DAt w bd F D) : DNext w bd F D w :=
  ⟨h.wide (fun _ hk => .inl hk) fun k hk => by rcases hk with hk | hk; exact h.lt k hk; exact hk.2, Chg.refl _ _⟩

theorem ret_i {k : IntKind} {a b : Int} (h : a = b) : Ending.returned (.int k a) = .returned (.int k b) := by rw [h]
set_option maxHeartbeats 400000 in
theorem refused_any (bd : Nat) (F : Nat → Prop) (D : Dev) (n : Int) (w : World) (h : DAt w bd F D) :
    Calls Tryz.prog 240 #[.pointer (some ⟨bd, 0, none⟩), .int .i64 n] w fun e w' => e = .returned (.int .i64 (D.refused n)) ∧ w = w' := by
  obtain ⟨vs, vp, hb, hs, _, _, _⟩ := h.out
  obtain ⟨a, c, rfl⟩ := hs.shape
  have c4 : w.cell? ⟨bd, 4, none⟩ = some (.bool D.off) := hb.cell 4
  have c0 : w.cell? ⟨bd, 0, none⟩ = some (.slice a D.safe.length c) := hb.cell 0
  unfold Dev.refused
  generalize D.off = off at *
  generalize D.safe.length = N at *
  clear hb hs h
  cases off
  · by_cases hn : n < 0
    · go_enter Tryz.func240, Tryz.ntmps240
      go_wp2
      go_ret
      exact ⟨ret_i (by simp), rfl⟩
    · by_cases hN : (N : Int) ≤ n
      · go_enter Tryz.func240, Tryz.ntmps240
        go_wp2
        go_ret
        exact ⟨ret_i (by simp), rfl⟩
      · go_enter Tryz.func240, Tryz.ntmps240
        go_wp2
        go_ret
        exact ⟨ret_i (by simp), rfl⟩
  · go_enter Tryz.func240, Tryz.ntmps240
    go_wp2
    go_ret
    exact ⟨ret_i (by simp), rfl⟩

theorem chg2 (w : World) (bd i j : Nat) (u v : Value) : Chg (fun k => k = bd) w ((w.setCell ⟨bd, i, none⟩ u).setCell ⟨bd, j, none⟩ v) :=
  Chg.setCell (S := fun k => k = bd) (p := ⟨bd, j, none⟩) (Chg.setCell (S := fun k => k = bd) (p := ⟨bd, i, none⟩) (Chg.refl _ _) rfl _) rfl _
theorem chg1 (w : World) (bd i : Nat) (u : Value) : Chg (fun k => k = bd) w (w.setCell ⟨bd, i, none⟩ u) := Chg.setCell (S := fun k => k = bd) (p := ⟨bd, i, none⟩) (Chg.refl _ _) rfl _
/-- Three numbers: what a step changes. -/
theorem DAt.three {w w' : World} {bd : Nat} {F : Nat → Prop} {D D' : Dev} (h : DAt w bd F D) (hs : D'.safe = D.safe) (hw : D'.ws = D.ws)
    (hb : ∀ vs vp, Blk w bd [vs, vp, .int .i64 (D.taken : Int), .int .i64 (D.fall : Int), .bool D.off] 75 → Blk w' bd [vs, vp, .int .i64 (D'.taken : Int), .int .i64 (D'.fall : Int), .bool D'.off] 75)
    (hc : Chg (fun k => k = bd) w w') : DAt w' bd F D' := by
  obtain ⟨vs, vp, hb0, h1, h2, h3, h4⟩ := h.out
  refine ⟨⟨hs ▸ h.ok.s, by rw [hs, hw]; exact h.ok.w, by rw [hs]; exact h.ok.n⟩, ⟨vs, vp, hb vs vp hb0, ?_, ?_, h3, h4⟩, h.fd, fun k hk => Nat.lt_of_lt_of_le (h.lt k hk) hc.size⟩
  · rw [show D'.seen = D.seen by unfold Dev.seen; rw [hs, hw], hs]
    exact h1.chg hc fun k hk => by rintro rfl; exact h1.apart hb0 (by decide) hk
  · rw [hs, hw]
    exact h2.chg hc fun k hk => by rintro rfl; exact h2.apart hb0 (by decide) hk
set_option maxHeartbeats 800000 in
theorem step_any (bd : Nat) (F : Nat → Prop) (D : Dev) (w : World) (h : DAt w bd F D) (ht : D.taken ≤ 1000000) (hf : D.fall ≤ 9223372036854775807) :
    Calls Tryz.prog 287 #[.pointer (some ⟨bd, 0, none⟩)] w fun e w' => e = .returned (.bool D.goes) ∧ DAt w' bd F D.stepD ∧ Chg (fun k => k = bd) w w' ∧ w'.heap.size = w.heap.size := by
  obtain ⟨vs, vp, hb, _, _, _, _⟩ := h.out
  have c2 : w.cell? ⟨bd, 2, none⟩ = some (.int .i64 (D.taken : Int)) := hb.cell 2
  have c3 : w.cell? ⟨bd, 3, none⟩ = some (.int .i64 (D.fall : Int)) := hb.cell 3
  have c4 : w.cell? ⟨bd, 4, none⟩ = some (.bool D.off) := hb.cell 4
  have f2 := hb.free 2
  have f3 := hb.free 3
  have f4 := hb.free 4
  clear hb
  by_cases h1 : D.fall = 1
  · have hg : D.goes = false := by simp [Dev.goes, h1]
    have hS : D.stepD = { D with fall := 0, off := true } := by simp [Dev.stepD, h1]
    have hd : (((D.fall : Nat) : Int) == 1) = true := by rw [h1]; rfl
    have hR : DAt ((w.setCell ⟨bd, 3, none⟩ (.int .i64 0)).setCell ⟨bd, 4, none⟩ (.bool true)) bd F D.stepD := by
      refine h.three (by rw [hS]) (by rw [hS]) (fun vs vp hb => ?_) ?_
      · rw [hS]; exact (hb.setCell 3 (.int .i64 0)).setCell 4 (.bool true)
      · exact chg2 _ _ _ _ _ _
    have hC : Chg (fun k => k = bd) w ((w.setCell ⟨bd, 3, none⟩ (.int .i64 0)).setCell ⟨bd, 4, none⟩ (.bool true)) := chg2 _ _ _ _ _ _
    rw [hg]
    replace hR := Box.mk hR
    replace hC := Box.mk hC
    replace hg := Box.mk hg
    replace hS := Box.mk hS
    replace h1 := Box.mk h1
    replace h := Box.mk h
    generalize D.fall = fl at *
    generalize D.taken = tk at *
    generalize D.off = of at *
    go_enter Tryz.func287, Tryz.ntmps287
    go_wp2
    go_ret
    exact ⟨rfl, hR.out, hC.out, by simp⟩
  · have hg : D.goes = true := by simp [Dev.goes, h1]
    have hS : D.stepD = { D with fall := D.fall - 1, taken := D.taken + 1 } := by simp [Dev.stepD, h1]
    have hR : DAt ((w.setCell ⟨bd, 3, none⟩ (.int .i64 ((D.fall - 1 : Nat) : Int))).setCell ⟨bd, 2, none⟩ (.int .i64 ((D.taken : Int) + 1))) bd F D.stepD := by
      refine h.three (by rw [hS]) (by rw [hS]) (fun vs vp hb => ?_) ?_
      · rw [hS]; exact (hb.setCell 3 _).setCell 2 _
      · exact chg2 _ _ _ _ _ _
    have hC : Chg (fun k => k = bd) w ((w.setCell ⟨bd, 3, none⟩ (.int .i64 ((D.fall - 1 : Nat) : Int))).setCell ⟨bd, 2, none⟩ (.int .i64 ((D.taken : Int) + 1))) := chg2 _ _ _ _ _ _
    rw [hg]
    replace hR := Box.mk hR
    replace hC := Box.mk hC
    replace hg := Box.mk hg
    replace hS := Box.mk hS
    replace h := Box.mk h
    generalize D.fall = fl at *
    generalize D.taken = tk at *
    generalize D.off = of at *
    by_cases h0 : fl = 0
    · subst h0
      go_enter Tryz.func287, Tryz.ntmps287
      go_wp2
      go_ret
      exact ⟨rfl, hR.out, hC.out, by simp⟩
    · have hd : ((fl : Int) == 1) = false := by rw [beq_eq_false_iff_ne]; omega
      have h2 : 2 ≤ fl := by omega
      have he : ((fl - 1 : Nat) : Int) = (fl : Int) - 1 := by omega
      rw [he] at hR hC
      clear he
      go_enter Tryz.func287, Tryz.ntmps287
      go_wp2
      go_ret
      exact ⟨rfl, hR.out, hC.out, by simp⟩

set_option maxHeartbeats 400000 in
theorem sectors_any (bd : Nat) (F : Nat → Prop) (D : Dev) (w : World) (h : DAt w bd F D) :
    Calls Tryz.prog 78 #[.pointer (some ⟨bd, 0, none⟩)] w fun e w' => e = .returned (.int .i64 (D.safe.length : Int)) ∧ w = w' := by
  obtain ⟨vs, vp, hb, hs, _, _, _⟩ := h.out
  obtain ⟨a, c, rfl⟩ := hs.shape
  have c0 : w.cell? ⟨bd, 0, none⟩ = some (.slice a D.safe.length c) := hb.cell 0
  generalize D.safe.length = N at *
  clear hb hs h
  go_enter Tryz.func78, Tryz.ntmps78
  go_wp2
  go_ret
  exact ⟨rfl, rfl⟩
set_option maxHeartbeats 400000 in
theorem off_any (bd : Nat) (F : Nat → Prop) (D : Dev) (w : World) (h : DAt w bd F D) :
    Calls Tryz.prog 14 #[.pointer (some ⟨bd, 0, none⟩)] w fun e w' => e = .returned (.bool D.off) ∧ w = w' := by
  obtain ⟨vs, vp, hb, _, _, _, _⟩ := h.out
  have c0 : w.cell? ⟨bd, 4, none⟩ = some (.bool D.off) := hb.cell 4
  clear hb h
  go_enter Tryz.func14, Tryz.ntmps14
  go_wp2
  go_ret
  exact ⟨rfl, rfl⟩
set_option maxHeartbeats 400000 in
theorem fall_any (bd : Nat) (F : Nat → Prop) (D : Dev) (n : Int) (w : World) (h : DAt w bd F D) (hn : -9223372036854775808 ≤ n ∧ n ≤ 9223372036854775807) :
    Calls Tryz.prog 10 #[.pointer (some ⟨bd, 0, none⟩), .int .i64 n] w fun e w' => e = .returned (.tuple #[]) ∧ DAt w' bd F (D.falls n) ∧ Chg (fun k => k = bd) w w' := by
  obtain ⟨vs, vp, hb, _, _, _, _⟩ := h.out
  have c3 : w.cell? ⟨bd, 3, none⟩ = some (.int .i64 (D.fall : Int)) := hb.cell 3
  have f3 := hb.free 3
  clear hb
  have hR : DAt (w.setCell ⟨bd, 3, none⟩ (.int .i64 (max n 0))) bd F (D.falls n) :=
    h.three rfl rfl (fun vs vp hb => by
      have := hb.setCell 3 (.int .i64 (max n 0))
      simpa [Dev.falls, show ((max n 0).toNat : Int) = max n 0 by omega] using this) (chg1 _ _ _ _)
  have hC := chg1 w bd 3 (.int .i64 (max n 0))
  replace h := Box.mk h
  by_cases h0 : n < 0
  · rw [Int.max_eq_right (by omega)] at hR hC
    replace hR := Box.mk hR
    replace hC := Box.mk hC
    go_enter Tryz.func10, Tryz.ntmps10
    go_wp2
    go_returns
    exact ⟨rfl, hR.out, hC.out⟩
  · rw [Int.max_eq_left (by omega)] at hR hC
    replace hR := Box.mk hR
    replace hC := Box.mk hC
    go_enter Tryz.func10, Tryz.ntmps10
    go_wp2
    go_returns
    exact ⟨rfl, hR.out, hC.out⟩
end Go.Proofs.YthpfpkikmaiddaaGreatDoor.Pk


/- Walks of New, Read and Write. -/
namespace Go.Proofs.YthpfpkikmaiddaaGreatDoor.Pk
open Go.RowKit

/-- A type's row of the table, its zero value told by its cells. -/
theorem info_cells {P : Program} {e : TypeId} {L : List Value} {size bytes : Nat} (h : (P.info? e).map (fun i => (i.zero.map fun z => z.cells.toList, i.size, i.bytes)) = some (some L, size, bytes)) :
    ∃ i z, P.info? e = some i ∧ i.zero = some z ∧ i.size = size ∧ i.bytes = bytes ∧ z.cells = L.toArray := by
  obtain ⟨i, hi, hzz⟩ := Option.map_eq_some_iff.1 h
  simp only [Prod.mk.injEq, Option.map_eq_some_iff] at hzz
  obtain ⟨⟨z, hz, hL⟩, h1, h2⟩ := hzz
  exact ⟨i, z, hi, hz, h1, h2, by rw [← hL]⟩
def zeroW : List Value := .int .i64 0 :: List.replicate 128 (.int .u8 0)
theorem zeroW_length : zeroW.length = 129 := by simp [zeroW]
theorem infoS : (Tryz.prog.info? 93).map (fun i => (i.zero.map fun z => z.cells.toList, i.size, i.bytes)) = some (some (List.replicate 64 (.int .u8 0)), 64, 64) := by kernel_rfl
theorem infoW : (Tryz.prog.info? 95).map (fun i => (i.zero.map fun z => z.cells.toList, i.size, i.bytes)) = some (some zeroW, 129, 136) := by kernel_rfl
theorem sizeS : (Tryz.prog.info? 93).map (·.size) = some 64 := by kernel_rfl
theorem sizeW : (Tryz.prog.info? 95).map (·.size) = some 129 := by kernel_rfl
theorem sizeB : (Tryz.prog.info? 5).map (·.size) = some 1 := by kernel_rfl

theorem secCells_length : ∀ (s : List Sec), okS s → (secCells s).length = s.length * 64
  | [], _ => rfl
  | x :: s, h => by
    have ih := secCells_length s fun y hy => h y (by simp [hy])
    unfold secCells at ih ⊢
    rw [List.flatMap_cons, List.length_append, List.length_map, h x (by simp), ih, List.length_cons]; omega
theorem secCells_get : ∀ (s : List Sec) (n : Nat), okS s → n < s.length → ((secCells s).drop (n * 64)).take 64 = (s.getD n zeroS).map yc
  | x :: s, 0, h, _ => by
    have hx : (x.map yc).length = 64 := by rw [List.length_map, h x (by simp)]
    unfold secCells
    rw [List.flatMap_cons, Nat.zero_mul, List.drop_zero, List.take_append_of_le_length (by omega), List.take_of_length_le (by omega)]; rfl
  | x :: s, n + 1, h, hn => by
    have hx : (x.map yc).length = 64 := by rw [List.length_map, h x (by simp)]
    have ih := secCells_get s n (fun y hy => h y (by simp [hy])) (by simpa using hn)
    unfold secCells at ih ⊢
    rw [List.flatMap_cons, List.drop_append, List.drop_of_length_le (by omega), hx, show (n + 1) * 64 - 64 = n * 64 by omega, List.nil_append, ih]; rfl
theorem secCells_set : ∀ (s : List Sec) (n : Nat) (t : Sec), okS s → t.length = 64 → n < s.length → spl (secCells s) (n * 64) (t.map yc) = secCells (s.set n t)
  | x :: s, 0, t, h, ht, _ => by
    have hx : (x.map yc).length = 64 := by rw [List.length_map, h x (by simp)]
    unfold secCells spl
    rw [List.flatMap_cons, Nat.zero_mul, List.take_zero, List.nil_append, List.length_map, ht, Nat.zero_add, List.drop_append, List.drop_of_length_le (by omega), hx, List.nil_append, Nat.sub_self, List.drop_zero]; rfl
  | x :: s, n + 1, t, h, ht, hn => by
    have hx : (x.map yc).length = 64 := by rw [List.length_map, h x (by simp)]
    have ih := secCells_set s n t (fun y hy => h y (by simp [hy])) ht (by simpa using hn)
    unfold secCells spl at ih ⊢
    rw [List.set_cons_succ, List.flatMap_cons, List.flatMap_cons, ← ih, List.length_map, ht]
    rw [List.take_append, List.take_of_length_le (show (x.map yc).length ≤ (n + 1) * 64 by omega), hx, show (n + 1) * 64 - 64 = n * 64 by omega,
      List.drop_append, List.drop_of_length_le (show (x.map yc).length ≤ (n + 1) * 64 + 64 by omega), hx, show (n + 1) * 64 + 64 - 64 = n * 64 + 64 by omega, List.nil_append]
    simp [List.append_assoc]
theorem spl_full (L vs : List Value) (h : L.length = vs.length) : spl L 0 vs = vs := by
  simp [spl, h]
theorem cells_aft (n : Int) (bef : Sec) (t : List UInt8) (hb : bef.length = 64) (ht : t.length ≤ 64) : spl (Value.int .i64 n :: (bef.map yc ++ zeroS.map yc)) 65 (t.map yc) = Value.int .i64 n :: (bef.map yc ++ (padS t).map yc) := by
  have hb' : (bef.map yc).length = 64 := by rw [List.length_map, hb]
  unfold spl
  rw [List.length_map, List.take_succ_cons, List.take_append_of_le_length (by omega), List.take_of_length_le (by omega), show 65 + t.length = (64 + t.length) + 1 by omega, List.drop_succ_cons, List.drop_append, List.drop_of_length_le (by omega), hb', show 64 + t.length - 64 = t.length by omega]
  have e : (zeroS.map yc).drop t.length = (List.replicate (64 - t.length) 0).map yc := by
    rw [zeroS, List.map_replicate, List.map_replicate, List.drop_replicate]
  rw [e, padS]
  simp
theorem wrCells_snoc (l : List Wr) (x : Wr) : wrCells (l ++ [x]) = wrCells l ++ x.cells := by simp [wrCells]
theorem Wr.cells_length (x : Wr) (h1 : x.bef.length = 64) (h2 : x.aft.length = 64) : x.cells.length = 129 := by simp [Wr.cells, h1, h2]
theorem Wr.cells_aft (x : Wr) (h1 : x.bef.length = 64) (h2 : x.aft.length = 64) : (x.cells.drop 65).take 64 = x.aft.map yc := by
  unfold Wr.cells
  rw [List.drop_succ_cons, List.drop_append, List.drop_of_length_le (by simp [h1]), List.length_map, h1, Nat.sub_self, List.nil_append, List.drop_zero, List.take_of_length_le (by simp [h2])]
theorem Wr.cells_bef (x : Wr) (h1 : x.bef.length = 64) : (x.cells.drop 1).take 64 = x.bef.map yc := by
  unfold Wr.cells
  rw [List.drop_succ_cons, List.drop_zero, List.take_append_of_le_length (by simp [h1]), List.take_of_length_le (by simp [h1])]
theorem Wr.cells_one (x : Wr) : ∀ v ∈ x.cells, v.oneCell' = true := by
  intro v hv
  simp only [Wr.cells, List.mem_cons, List.mem_append] at hv
  rcases hv with rfl | hv | hv
  · rfl
  · exact yc_one _ v hv
  · exact yc_one _ v hv
/-- All writes have both sectors of 64 bytes. -/
def okP (l : List Wr) : Prop := ∀ x ∈ l, x.bef.length = 64 ∧ x.aft.length = 64
theorem okP_pend : ∀ (s : List Sec) (ws : List WrD) (n : Nat), okS s → okW n ws → okP (pendW s ws)
  | _, [], _, _, _ => fun _ h => by cases h
  | s, x :: ws, n, hs, hw => by
    have ih := okP_pend (s.set x.1 x.2) ws n (okS_set hs _ (okW_cons hw).1.2) (okW_cons hw).2
    intro y hy
    rcases List.mem_cons.1 hy with rfl | hy
    · exact ⟨okS_getD hs _, (okW_cons hw).1.2⟩
    · exact ih y hy
theorem wrCells_get : ∀ (l : List Wr) (i : Nat), okP l → (h : i < l.length) → ((wrCells l).drop (i * 129)).take 129 = (l[i]).cells
  | x :: l, 0, ho, _ => by
    have hx := Wr.cells_length x (ho x (by simp)).1 (ho x (by simp)).2
    unfold wrCells
    rw [List.flatMap_cons, Nat.zero_mul, List.drop_zero, List.take_append_of_le_length (by omega), List.take_of_length_le (by omega)]; rfl
  | x :: l, i + 1, ho, h => by
    have hx := Wr.cells_length x (ho x (by simp)).1 (ho x (by simp)).2
    have ih := wrCells_get l i (fun y hy => ho y (by simp [hy])) (by simpa using h)
    unfold wrCells at ih ⊢
    rw [List.flatMap_cons, List.drop_append, List.drop_of_length_le (by omega), hx, show (i + 1) * 129 - 129 = i * 129 by omega, List.nil_append, ih]; rfl
theorem made_rep (v : Value) (k n : Nat) (hk : 0 < k) : (madeCells (List.replicate k v).toArray n).toList = List.replicate n v := by
  apply List.ext_getElem?
  intro j
  by_cases hj : j < n
  · have hm : j % k < k := Nat.mod_lt _ hk
    simp [madeCells, hj, hm]
  · simp [madeCells, hj]
theorem secCells_new (n : Nat) : secCells (List.replicate n zeroS) = List.replicate (n * 64) (.int .u8 0) := by
  induction n with
  | zero => rfl
  | succ n ih =>
    unfold secCells at ih ⊢
    rw [List.replicate_succ, List.flatMap_cons, ih, show (n + 1) * 64 = 64 + n * 64 by omega, ← List.replicate_append_replicate]
    rfl

section
variable {P : Program} {w : World} {ops : Array Oper} {rest : List Oper} {o : Oper} {a : Act} {Q : Exit → Act → World → Prop}
/-- A new variable of a type of many cells. -/
theorem wpList_allocL (hgd : o.guard = none) (ty : TypeId) (ho : o.op = .alloc ty) (i : TypeInfo) (z : Value) (L : List Value) (hi : P.info? ty = some i) (hz : i.zero = some z) (hL : z.cells = L.toArray) (N : Nat) (hN : w.heap.size = N)
    (k : ∀ w', Blk w' N L ty → Chg (fun _ => False) w w' → w'.heap.size = N + 1 → wpList P ops Q rest (a.put o.dst (.pointer (some ⟨N, 0, none⟩))) w') : wpList P ops Q (o :: rest) a w := by
  subst hN
  refine wpList_plain hgd fun K hK => ?_
  unfold Oper.wp execOp
  simp [ho, Instr.alloc, zeroValue, typeInfo, hi, hz, newVar, newRow, hL]
  exact hK _ _ (k _ (Blk.new w L ty) ((Chg.refl _ _).alloc _) (by simp))
theorem wpList_buildC (hgd : o.guard = none) (t : TypeId) (parts : List (Nat × Operand)) (ho : o.op = .build t parts.toArray) (vals : List (Nat × Value)) (hv : parts.map (fun x => (x.1, a.eval x.2)) = vals) (L : List Value) (hb : P.built t vals = some L.toArray)
    (k : wpList P ops Q rest (a.put o.dst (.agg L.toArray)) w) : wpList P ops Q (o :: rest) a w := by
  have e : (parts.toArray.map fun (i, x) => (i, a.eval x)).toList = vals := by rw [Array.toList_map]; exact hv
  exact wpList_build hgd t parts.toArray ho (by rw [e, hb]; rfl) (by rw [e, hb]; exact k)
theorem range_all {w : World} {b : Nat} {cs : List Value} {t : TypeId} (h : Blk w b cs t) : w.rangeAt b 0 cs := by
  have := (Hold.of_blk h).range 0 cs.length
  simpa using this
theorem exec_load_mid (ρ : Operand → Value) (ty : TypeId) (x : Operand) (ho : o.op = .load ty x) (b off : Nat) (hx : ρ x = .pointer (some ⟨b, off, none⟩)) (cs : List Value) (d : TypeDesc) (hc : w.rangeAt b off cs)
    (hu : P.underlying ty = some d) (hd : d.isRow = true) (hi : (P.info? ty).map (·.size) = some cs.length) : (execOp ρ o).run P w = .ok (.value (.agg cs.toArray)) w := by
  unfold execOp
  simp only [ho, hx, Instr.loadAt, Instr.sureAddr, Sem.run_bind, Sem.run_pure, Result.andThen_ok, run_loadVar_mid w b off ty cs d hc hu hd hi]
theorem quiet_any {P : Program} {ops : Array Oper} {C : World → Prop} {Q : Act → Prop} {a : Act} {o : Oper} {rest : List Oper} (hw : Region.wanted o (yielded ops a.tmps) = true) (v : Value)
    (hv : ∀ w, C w → (execOp a.eval o).run P w = .ok (.value v) w) (h : wpQuiet P ops C Q rest (a.put o.dst v)) : wpQuiet P ops C Q (o :: rest) a := by
  unfold wpQuiet
  simp only [hw, if_true]
  refine ⟨v, fun w hC => ?_, h⟩
  unfold Oper.quietAt
  simp [hv w hC, Oper.quietUpon]
theorem foldl_spl (off : Nat) : ∀ (vs : List Value) (k : Nat) (cs : Array Value), off + k + vs.length ≤ cs.size →
    ((vs.zipIdx k).foldl (fun (cs : Array Value) (x : Value × Nat) => cs.setIfInBounds (off + x.2) x.1) cs).toList = spl cs.toList (off + k) vs
  | [], k, cs, _ => by simp [spl]
  | v :: vs, k, cs, h => by
    simp only [List.length_cons] at h
    rw [List.zipIdx_cons, List.foldl_cons, foldl_spl off vs (k + 1) _ (by simp; omega)]
    unfold spl
    rw [Array.toList_setIfInBounds, List.length_cons]
    have hcl : cs.toList.length = cs.size := Array.length_toList
    rw [List.drop_set_of_lt (by omega), show off + (k + 1) = off + k + 1 by omega, List.take_set, List.take_succ_eq_append_getElem (by omega), List.set_append_right _ _ (by simp; omega)]
    simp [Nat.min_eq_left (show off + k ≤ cs.size by omega)]
    congr 1; omega
/-- A struct built of parts, cell by cell. -/
theorem fill_cons (place : Nat → Option (Nat × Nat)) (cs vs : List Value) (j off size : Nat) (v : Value) (rest : List (Nat × Value)) (hv : v.cells = vs.toArray) (hp : place j = some (off, size)) (hs : vs.length = size) (hfit : off + size ≤ cs.length) :
    Instr.fill place cs.toArray ((j, v) :: rest) = Instr.fill place (spl cs off vs).toArray rest := by
  have e : (vs.toArray.zipIdx.foldl (fun (cs : Array Value) (x : Value × Nat) => cs.setIfInBounds (off + x.2) x.1) cs.toArray) = (spl cs off vs).toArray := by
    apply Array.ext'
    have := foldl_spl off vs 0 cs.toArray (by simp; omega)
    simpa using this
  rw [Instr.fill, hp]
  simp only [hv]
  rw [if_neg (by simp; omega)]
  rw [← e]
/-- A slice literal of one element of many cells. -/
theorem run_slice1 (t e : TypeId) (vs : List Value) (ie : TypeInfo) (z : Value) (hu : P.underlying t = some (.slice e)) (hie : P.info? e = some ie) (hz : ie.zero = some z) (hsz : ie.size = vs.length) (h0 : 0 < vs.length) (hbig : vs.length ≤ 16777216) :
    (Instr.buildSlice t 1 #[(0, .agg vs.toArray)]).run P w = .ok (.slice (some ⟨w.heap.size, 0, none⟩) 1 1) (w.alloc (.cells vs.toArray e)) := by
  refine run_buildSlice w t e 1 _ vs.toArray ie z hu hie hz (by omega) (by omega) ?_
  have hX : ∃ X : List Value, ((Array.range (1 * ie.size)).map (z.cells[· % z.cells.size]!)) = X.toArray ∧ X.length = vs.length := ⟨((Array.range (1 * ie.size)).map (z.cells[· % z.cells.size]!)).toList, (Array.toArray_toList).symm, by simp [hsz]⟩
  obtain ⟨X, hX1, hX2⟩ := hX
  rw [hX1]
  have := fill_cons (fun i => some (i * ie.size, ie.size)) X vs 0 0 ie.size (.agg vs.toArray) [] rfl (by simp) (by omega) (by omega)
  rw [spl_full _ _ hX2, Instr.fill] at this
  exact this
theorem wp_slice1 {K : Act → World → Prop} (t e : TypeId) (x : Operand) (ho : o.op = .buildSlice t 1 #[(0, x)]) (vs : List Value) (hx : a.eval x = .agg vs.toArray) (ie : TypeInfo) (z : Value) (hu : P.underlying t = some (.slice e)) (hie : P.info? e = some ie) (hz : ie.zero = some z) (hsz : ie.size = vs.length) (h0 : 0 < vs.length) (hbig : vs.length ≤ 16777216)
    (N : Nat) (hN : w.heap.size = N) (k : ∀ w', Blk w' N vs e → Chg (fun _ => False) w w' → w'.heap.size = N + 1 → K (a.put o.dst (.slice (some ⟨N, 0, none⟩) 1 1)) w') : o.wp P a w K Q := by
  subst hN
  have hr := run_slice1 (P := P) (w := w) t e vs ie z hu hie hz hsz h0 hbig
  unfold Oper.wp execOp
  simp only [ho, List.map_toArray, List.map_cons, List.map_nil, hx, Sem.run_bind, hr, Result.andThen_ok]
  exact k _ (Blk.new w vs e) ((Chg.refl _ _).alloc _) (by simp)
theorem built_w (n : Int) (bef : Sec) (h : bef.length = 64) :
    Tryz.prog.built 95 [(0, .int .i64 n), (1, .agg (bef.map yc).toArray)] = some (Value.int .i64 n :: (bef.map yc ++ zeroS.map yc)).toArray := by
  obtain ⟨i, z, hi, hz, _, _, hL⟩ := info_cells infoW
  have hu := Tryz.underlying95
  unfold Program.built
  simp only [hi, hu, hz]
  have hp : ∀ fs : Array Field, Tryz.prog.underlying 95 = some (.struct fs) → (fs.toList.mapM fun f => (Tryz.prog.info? f.type).map fun i => (f.offset, i.size)) = some [(0, 1), (1, 64), (65, 64)] := by
    intro fs hfs
    rw [hu] at hfs
    cases hfs
    kernel_rfl
  rw [hp _ hu]
  dsimp only
  rw [hL]
  rw [fill_cons _ zeroW [.int .i64 n] 0 0 1 (.int .i64 n) _ rfl rfl rfl (by rw [zeroW_length]; omega)]
  rw [fill_cons _ _ (bef.map yc) 1 1 64 _ _ rfl rfl (by rw [List.length_map, h]) (by rw [spl_length _ _ _ (by rw [zeroW_length]; simp), zeroW_length]; omega)]
  rw [Instr.fill]
  have e1 : spl zeroW 0 [.int .i64 n] = .int .i64 n :: List.replicate 128 (.int .u8 0) := rfl
  have e2 : zeroS.map yc = List.replicate 64 (.int .u8 0) := rfl
  rw [e1, e2]
  unfold spl
  rw [List.length_map, h]
  rfl
end
end Go.Proofs.YthpfpkikmaiddaaGreatDoor.Pk


/- Walks of New, Read and Write. -/
namespace Go.Proofs.YthpfpkikmaiddaaGreatDoor.Pk
open Go.RowKit

def NewDev (w : World) (n : Nat) (e : Ending) (w' : World) : Prop :=
  ∃ bd, e = .returned (.tuple #[.pointer (some ⟨bd, 0, none⟩), .int .i64 0]) ∧ DAt w' bd (fun k => w.heap.size ≤ k ∧ k < w'.heap.size) (Dev.new n) ∧ Below w.heap.size w w'
theorem newdev_of (w w1 : World) (n g : Nat) (h2 : n ≤ 4096) (hr : Row w1 93 64 (.slice (some ⟨g, 0, none⟩) n n) n (secCells (List.replicate n zeroS))) (hb : Below w.heap.size w w1) (hg : w.heap.size ≤ g) :
    NewDev w n (.returned (.tuple #[.pointer (some ⟨w1.heap.size, 0, none⟩), .int .i64 0])) (w1.alloc (.cells #[.slice (some ⟨g, 0, none⟩) n n, .slice none 0 0, .int .i64 0, .int .i64 0, .bool false] 75)) := by
  have hnew := Blk.new w1 [.slice (some ⟨g, 0, none⟩) n n, .slice none 0 0, .int .i64 0, .int .i64 0, .bool false] 75
  have hsz := hb.size
  have hlt := hr.lt g rfl
  refine ⟨_, rfl, ⟨Dev.new_ok n h2, ⟨_, _, hnew, ?_, Row.nil _ _ _, fun k hk => ?_, fun k hk => by cases hk⟩, ?_, fun k hk => hk.2⟩, hb.alloc hsz _⟩
  · have := hr.chg (S := fun _ => False) ((Chg.refl _ _).alloc (.cells #[.slice (some ⟨g, 0, none⟩) n n, .slice none 0 0, .int .i64 0, .int .i64 0, .bool false] 75)) (fun _ _ h => h)
    simpa [Dev.new, Dev.seen, runW] using this
  · obtain rfl : g = k := by simpa [Value.ownBlock] using hk
    simp; omega
  · simp; omega
set_option maxHeartbeats 800000 in
theorem new_fit (n : Nat) (w : World) (h1 : 1 ≤ n) (h2 : n ≤ 4096) :
    Calls Tryz.prog 7 #[.int .i64 (n : Int)] w (NewDev w n) := by
  obtain ⟨i, z, hi, hz, hi1, hi2, hL⟩ := info_cells infoS
  have hH := Box.mk (And.intro hi (And.intro hz (And.intro hi1 (And.intro hi2 hL))))
  clear hi hz hi1 hi2 hL
  go_enter Tryz.func7, Tryz.ntmps7
  go_wp2_with (at_make; refine wpList_make_full _ rfl (.tmp 10) (.tmp 10) 72 rfl w.heap.size 93 i z 64 Tryz.underlying72 hH.out.1 hH.out.2.1 hH.out.2.2.1 .i64 .i64 _ _ n rfl rfl rfl rfl (by rw [hH.out.2.2.2.1]; omega) (by unfold maxLen; omega) (Nat.le_refl _) ?_; intro w1 hown hg)
  go_ret2
  refine newdev_of w w1 n _ h2 ?_ ⟨hg.os, hg.tape, hg.output, hg.size, fun k hk => hg.block k hk (by simp)⟩ (Nat.le_refl _)
  rw [hH.out.2.2.2.2, made_rep _ _ _ (by omega)] at hown
  rw [secCells_new]
  obtain ⟨x1, x2⟩ := hown
  refine ⟨x1, x2.imp id ?_⟩
  rintro ⟨g, cap, cur, e1, e2, e3⟩
  exact ⟨g, cap, cur, e1, Nat.zero_le _, e3⟩

theorem refused_zero {D : Dev} {n : Int} (h : D.refused n = 0) : D.off = false ∧ ∃ k : Nat, n = (k : Int) ∧ k < D.safe.length := by
  unfold Dev.refused at h
  split at h
  · simp at h
  · split at h
    · simp at h
    · next h1 h2 => exact ⟨by simpa using h1, n.toNat, by omega, by omega⟩
theorem bytes_conv (w : World) (g o c : Nat) (l : List UInt8) (hc : w.rangeAt g o (l.map yc)) : (convert 23 9 (.slice (some ⟨g, o, none⟩) l.length c)).run Tryz.prog w = .ok (.string ⟨l.toArray⟩) w := by
  have hcl : ∀ i, i < l.length → w.cell? ⟨g, o + i, none⟩ = some (.int .u8 ((l.map Y).getD i 0)) := by
    intro i hi
    have := hc i (yc (l[i])) (by simp [hi])
    rw [this]
    simp [yc, List.getD, hi]
  have := run_convert_bytes_arg (P := Tryz.prog) w 23 5 Tryz.underlying23 Tryz.underlying5 g o l.length c (l.map Y) (by simp) hcl 9 Tryz.underlying9
  rw [Y_back] at this; exact this
set_option maxHeartbeats 800000 in
theorem read_fit (bd : Nat) (F : Nat → Prop) (D : Dev) (n : Nat) (w : World) (h : DAt w bd F D) (hoff : D.off = false) (hn : n < D.safe.length) :
    Calls Tryz.prog 193 #[.pointer (some ⟨bd, 0, none⟩), .int .i64 (n : Int)] w fun e w' => e = .returned (.tuple #[.string ⟨(D.seen.getD n zeroS).toArray⟩, .int .i64 0]) ∧ w = w' := by
  have hR := refused_any bd F D n w h
  have hz : D.refused (n : Int) = 0 := by unfold Dev.refused; rw [hoff, if_neg (by simp), if_neg (by omega)]
  rw [hz] at hR
  obtain ⟨vs, vp, hb, hs, _, _, _⟩ := h.out
  obtain ⟨g, c, rfl, hg⟩ := hs.some (by omega)
  have hsl : D.seen.length = D.safe.length := Dev.ok.seen_len
  have hx := (Hold.of_row hs).range (n * 64) 64
  rw [secCells_get _ _ h.ok.seen (by omega)] at hx
  have hl : (D.seen.getD n zeroS).length = 64 := okS_getD h.ok.seen n
  have hconv := bytes_conv w g (n * 64) 64 (D.seen.getD n zeroS) hx
  rw [hl] at hconv
  have c0 : w.cell? ⟨bd, 0, none⟩ = some (.slice (some ⟨g, 0, none⟩) D.safe.length c) := hb.cell 0
  obtain ⟨T, hT⟩ : ∃ T : ByteArray, (⟨(D.seen.getD n zeroS).toArray⟩ : ByteArray) = T := ⟨_, rfl⟩
  rw [hT] at hconv ⊢
  generalize D.safe.length = N at *
  replace hR := Box.mk hR
  clear hb hs h hx hl hT hsl hz hoff
  go_enter Tryz.func193, Tryz.ntmps193
  go_wp2_with fail
  refine hR.out.mono ?_
  rintro e w' ⟨rfl, rfl⟩
  clear hR
  go_wp2_with fail
  go_ret2
  exact ⟨rfl, rfl⟩
end Go.Proofs.YthpfpkikmaiddaaGreatDoor.Pk


/- Walk of Write. -/
namespace Go.Proofs.YthpfpkikmaiddaaGreatDoor.Pk
open Go.RowKit

theorem write_refused (bd : Nat) (F : Nat → Prop) (D : Dev) (n : Int) (t : ByteArray) (w : World) (h : DAt w bd F D) (hr : D.refused n ≠ 0) :
    Calls Tryz.prog 243 #[.pointer (some ⟨bd, 0, none⟩), .int .i64 n, .string t] w fun e w' => e = .returned (.int .i64 (D.refused n)) ∧ w = w' := by
  have hR := refused_any bd F D n w h
  have hb : ((D.refused n) != 0) = true := by simpa using hr
  generalize D.refused n = x at *
  replace hR := Box.mk hR
  clear hr h
  go_enter Tryz.func243, Tryz.ntmps243
  go_wp2_with fail
  refine hR.out.mono ?_
  rintro e w' ⟨rfl, rfl⟩
  go_wp2_with fail
  go_ret
  exact ⟨rfl, rfl⟩
theorem write_long (bd : Nat) (F : Nat → Prop) (D : Dev) (n : Int) (t : ByteArray) (w : World) (h : DAt w bd F D) (hr : D.refused n = 0) (ht : 64 < t.size) :
    Calls Tryz.prog 243 #[.pointer (some ⟨bd, 0, none⟩), .int .i64 n, .string t] w fun e w' => e = .returned (.int .i64 1) ∧ w = w' := by
  have hR := refused_any bd F D n w h
  rw [hr] at hR
  replace hR := Box.mk hR
  clear hr h
  go_enter Tryz.func243, Tryz.ntmps243
  go_wp2_with fail
  refine hR.out.mono ?_
  rintro e w' ⟨rfl, rfl⟩
  clear hR
  go_wp2_with fail
  go_ret
  exact ⟨rfl, rfl⟩
theorem write_falls (bd : Nat) (F : Nat → Prop) (D : Dev) (n : Int) (t : ByteArray) (w : World) (h : DAt w bd F D) (hr : D.refused n = 0) (ht : t.size ≤ 64) (hk : D.taken ≤ 1000000) (hf : D.fall ≤ 9223372036854775807) (hg : D.goes = false) :
    Calls Tryz.prog 243 #[.pointer (some ⟨bd, 0, none⟩), .int .i64 n, .string t] w fun e w' => e = .returned (.int .i64 7) ∧ DAt w' bd F D.stepD ∧ Chg (fun k => k = bd) w w' ∧ w'.heap.size = w.heap.size := by
  have hR := refused_any bd F D n w h
  rw [hr] at hR
  have hS := step_any bd F D w h hk hf
  rw [hg] at hS
  replace hR := Box.mk hR
  replace hS := Box.mk hS
  clear hr h hk hf hg
  go_enter Tryz.func243, Tryz.ntmps243
  go_wp2_with fail
  refine hR.out.mono ?_
  rintro e w' ⟨rfl, rfl⟩
  clear hR
  go_wp2_with fail
  refine hS.out.mono ?_
  rintro e w1 ⟨rfl, hD1, hC1, hz1⟩
  replace hD1 := Box.mk hD1
  replace hC1 := Box.mk hC1
  replace hz1 := Box.mk hz1
  clear hS
  go_wp2_with fail
  go_ret
  exact ⟨rfl, hD1.out, hC1.out, hz1.out⟩

theorem write_done {w wd wa w7 : World} {bd g c n : Nat} {F : Nat → Prop} {D : Dev} {vp v' : Value} {bef aft : Sec} (h : DAt w bd F D) (hn : n < D.safe.length) (hbef : D.stepD.seen.getD n zeroS = bef) (haft : aft.length = 64)
    (hCd : Chg (fun k => F k ∨ w.heap.size ≤ k) w wd) (hb : Blk wd bd [.slice (some ⟨g, 0, none⟩) D.safe.length c, vp, .int .i64 (D.stepD.taken : Int), .int .i64 (D.stepD.fall : Int), .bool D.stepD.off] 75)
    (hs : Row wd 93 64 (.slice (some ⟨g, 0, none⟩) D.safe.length c) D.safe.length (secCells (D.stepD.seen.set n aft))) (hF1 : F g) (hF2 : ∀ k, vp.ownBlock = some k → F k) (hA : Chg (fun _ => False) wd wa)
    (hP : PushedRow wa 95 129 vp (D.ws.length + 1) (wrCells (pendW D.stepD.safe D.ws) ++ Wr.cells ⟨n, bef, aft⟩) v' w7) (hvs : ∀ k, vp.ownBlock = some k → g ≠ k ∧ bd ≠ k) :
    DNext w bd F { D.stepD with ws := D.ws ++ [(n, aft)] } (w7.setCell ⟨bd, 1, none⟩ v') := by
  have hok : ({ D.stepD with ws := D.ws ++ [(n, aft)] } : Dev).ok := ⟨h.ok.step.s, okW_snoc (by rw [Dev.step_safe]; exact h.ok.w) (by rw [Dev.step_safe]; exact hn) haft, h.ok.step.n⟩
  have hba := hA.blk hb (fun h => h)
  have hsa := hs.chg hA (fun _ _ h => h)
  have hb7 := hP.chg.blk hba (fun hk => (hvs bd hk).2 rfl)
  have hs7 := hsa.chg hP.chg (fun k hk hv => by
    obtain rfl : g = k := by simpa [Value.ownBlock] using hk
    exact (hvs g hv).1 rfl)
  have hc8 := chg1 w7 bd 1 v'
  have hgb : g ≠ bd := by
    rintro rfl
    exact hs7.apart hb7 (by decide) rfl
  have hsz1 := hCd.size
  have hsz2 := hA.size
  have hsz3 := hP.chg.size
  have hsz4 : (w7.setCell ⟨bd, 1, none⟩ v').heap.size = w7.heap.size := by simp
  refine ⟨⟨hok, ⟨.slice (some ⟨g, 0, none⟩) D.safe.length c, v', hb7.setCell 1 v', ?_, ?_, fun k hk => ?_, fun k hk => ?_⟩, .inl h.fd, fun k hk => ?_⟩, ?_⟩
  · have := hs7.chg hc8 (fun k hk hb => by
      obtain rfl : g = k := by simpa [Value.ownBlock] using hk
      exact hgb hb)
    have e : ({ D.stepD with ws := D.ws ++ [(n, aft)] } : Dev).seen = D.stepD.seen.set n aft := by
      unfold Dev.seen; rw [runW_snoc]; rw [Dev.step_ws]
    rw [e]
    simpa [Dev.step_safe] using this
  · have := hP.row.chg hc8 (fun k hk hb => by subst hb; exact hP.row.apart hb7 (by decide) hk)
    have e : pendW D.stepD.safe (D.ws ++ [(n, aft)]) = pendW D.stepD.safe D.ws ++ [⟨n, bef, aft⟩] := by
      rw [pendW_snoc]
      have : D.stepD.seen = runW D.stepD.safe D.ws := by unfold Dev.seen; rw [Dev.step_ws]
      rw [← this, hbef]
    simp only [List.length_append, List.length_singleton]
    rw [e, wrCells_snoc]
    exact this
  · obtain rfl : g = k := by simpa [Value.ownBlock] using hk
    exact .inl hF1
  · rcases hP.place k hk with h1 | h1
    · exact .inl (hF2 k h1)
    · have := hP.row.lt k hk
      exact .inr (by omega)
  · rcases hk with hk | hk
    · have := h.lt k hk; omega
    · exact hk.2
  · have h1 : Chg F w wd := ⟨hCd.os, hCd.tape, hCd.output, hCd.size, fun k hk hn => hCd.block k hk (by rintro (h | h); exact hn h; omega)⟩
    exact ((h1.trans hA (fun _ _ h => h.elim)).trans hP.chg (fun i _ hi => hF2 i hi)).trans hc8 (fun i _ hi => by rw [hi]; exact h.fd)
set_option maxHeartbeats 1600000 in
set_option maxRecDepth 100000 in
theorem write_fit (bd : Nat) (F : Nat → Prop) (D : Dev) (n : Nat) (t : ByteArray) (w : World) (h : DAt w bd F D) (hoff : D.off = false) (hn : n < D.safe.length) (ht : t.size ≤ 64) (hk : D.taken ≤ 1000000) (hf : D.fall ≤ 9223372036854775807) (hws : D.ws.length ≤ 1000000) (hg : D.goes = true) :
    Calls Tryz.prog 243 #[.pointer (some ⟨bd, 0, none⟩), .int .i64 (n : Int), .string t] w fun e w' => e = .returned (.int .i64 0) ∧ DNext w bd F { D.stepD with ws := D.ws ++ [(n, padS t.data.toList)] } w' := by
  have hR := refused_any bd F D n w h
  have hz : D.refused (n : Int) = 0 := by unfold Dev.refused; rw [hoff, if_neg (by simp), if_neg (by omega)]
  rw [hz] at hR
  have hS := step_any bd F D w h hk hf
  rw [hg] at hS
  replace hR := Box.mk hR
  replace hS := Box.mk hS
  clear hz
  obtain ⟨iW, zW, hiW, hzW, hiW1, hiW2, hLW⟩ := info_cells infoW
  have hH := Box.mk (And.intro hiW (And.intro hzW (And.intro hiW1 (And.intro hiW2 hLW))))
  clear hiW hzW hiW1 hiW2 hLW
  replace h := Box.mk h
  replace hoff := Box.mk hoff
  replace hg := Box.mk hg
  replace hk := Box.mk hk
  replace hf := Box.mk hf
  replace hws := Box.mk hws
  go_enter Tryz.func243, Tryz.ntmps243
  go_wp2_with fail
  refine hR.out.mono ?_
  rintro e w' ⟨rfl, rfl⟩
  clear hR
  go_wp2_with fail
  refine hS.out.mono ?_
  rintro e w1 ⟨rfl, hD1, hC1, hz1⟩
  clear hS
  obtain ⟨vs, vp, hb, hs, hp, hF1, hF2⟩ := hD1.out
  rw [Dev.step_safe] at hs
  obtain ⟨g, c, rfl, hgl⟩ := hs.some (by omega)
  obtain ⟨pa, pc, rfl⟩ := hp.shape
  have hx := (Hold.of_row hs).range (n * 64) 64
  have hsl : D.stepD.seen.length = D.safe.length := by rw [Dev.ok.seen_len, Dev.step_safe]
  rw [secCells_get _ _ hD1.ok.seen (by omega)] at hx
  obtain ⟨bef, hbef⟩ : ∃ bef, D.stepD.seen.getD n zeroS = bef := ⟨_, rfl⟩
  rw [hbef] at hx
  have hbl : bef.length = 64 := hbef ▸ okS_getD hD1.ok.seen n
  have c0 : w1.cell? ⟨bd, 0, none⟩ = some (.slice (some ⟨g, 0, none⟩) D.safe.length c) := hb.cell 0
  replace hD1 := Box.mk hD1
  replace hC1 := Box.mk hC1
  replace hz1 := Box.mk hz1
  replace hb := Box.mk hb
  replace hs := Box.mk hs
  replace hp := Box.mk hp
  replace hF1 := Box.mk hF1
  replace hF2 := Box.mk hF2
  replace hsl := Box.mk hsl
  replace hbef := Box.mk hbef
  replace hbl := Box.mk hbl
  replace hx := Box.mk hx
  obtain ⟨N, hN⟩ : ∃ N, D.safe.length = N := ⟨_, rfl⟩
  rw [hN] at c0 hn
  replace hN := Box.mk hN
  obtain ⟨bo, hbo⟩ : ∃ bo, w1.heap.size = bo := ⟨_, rfl⟩
  replace hbo := Box.mk hbo
  go_wp2_with (first
    | (refine wpList_load_mid (cs := bef.map yc) rfl 93 (.tmp 27) rfl g (n * 64) rfl _ hx.out Tryz.underlying93 rfl (by rw [sizeS, List.length_map, hbl.out]) ?_)
    | (refine wpList_buildC rfl 95 [(0, .tmp 21), (1, .tmp 28)] rfl [(0, .int .i64 (n : Int)), (1, .agg (bef.map yc).toArray)] rfl (Value.int .i64 (n : Int) :: (bef.map yc ++ zeroS.map yc)) (built_w (n : Int) bef hbl.out) ?_)
    | (refine wpList_allocL rfl 95 rfl iW zW zeroW hH.out.1 hH.out.2.1 hH.out.2.2.2.2 bo hbo.out ?_; intro w2 hb2 hc2 hz2; replace hb2 := Box.mk hb2; replace hc2 := Box.mk hc2; replace hz2 := Box.mk hz2)
    | (refine wpList_storeH rfl 95 (.tmp 8) (.tmp 29) rfl bo 0 95 zeroW (Value.int .i64 (n : Int) :: (bef.map yc ++ zeroS.map yc)) rfl rfl (Hold.of_blk hb2.out) (by simp [zeroW_length, hbl.out, zeroS_length]) (Wr.cells_one ⟨n, bef, zeroS⟩) (by simp [sizeW, hbl.out, zeroS_length]) ?_; intro w3 hl3; replace hl3 := Box.mk hl3; have hb3 := Box.mk (hl3.out.blk hb2.out))
    | (refine wpList_copyT rfl (.tmp 31) (.tmp 32) 23 9 5 rfl Tryz.underlying23 sizeB bo 65 64 64 t 95 _ rfl rfl (Hold.of_blk hb3.out) ht (by simp [spl_length, zeroW_length, hbl.out, zeroS_length]; omega) ?_; intro w4 hl4; replace hl4 := Box.mk hl4; have hb4 := Box.mk (hl4.out.blk hb3.out)))
  have e4 : Box (Blk w4 bo (Wr.cells ⟨n, bef, padS t.data.toList⟩) 95) := ⟨by
    have := hb4.out
    rw [spl_full _ _ (by simp [zeroW_length, hbl.out, zeroS_length]), cells_aft _ _ _ hbl.out (by rw [data_len]; exact ht)] at this
    exact this⟩
  have hB4 : Box (Below w1.heap.size w1 w4) := ⟨by
    have h1 := (hc2.out.mono (T := fun k => k = bo) fun _ _ h => h.elim).trans hl3.out.chg (fun _ _ h => h)
    have h2 := h1.trans hl4.out.chg (fun _ _ h => h)
    exact h2.below (Nat.le_refl _) (fun i hi => by rw [hi, hbo.out]; exact Nat.le_refl _)⟩
  have hD4 := Box.mk (hD1.out.below hB4.out)
  clear hb2 hc2 hz2 hl3 hb3 hl4 hb4 hx
  have hb4 := Box.mk ((hB4.out.block bd hb.out.lt).trans hb.out)
  have hs4 := Box.mk (hs.out.kept fun k hk => hB4.out.block k (hs.out.lt k hk))
  have hp4 := Box.mk (hp.out.kept fun k hk => hB4.out.block k (hp.out.lt k hk))
  have hg4 : Box (g ≠ bo) := ⟨by rw [← hbo.out]; omega⟩
  clear c0
  have hpl : Box ((padS t.data.toList).length = 64) := ⟨padS_length _ (by rw [data_len]; exact ht)⟩
  obtain ⟨aft, haft⟩ : ∃ aft, padS t.data.toList = aft := ⟨_, rfl⟩
  rw [haft] at hpl e4
  replace haft := Box.mk haft
  refine region_quiet_tail (C := fun w' => Chg (fun _ => False) w4 w') 8 rfl (by kernel_rfl) ((Chg.refl _ _).drew) ?_
  simp only [List.take, List.drop]
  simp only [Act.put, List.setIfInBounds_toArray, List.set_cons_succ, List.set_cons_zero]
  repeat (go_big_quiet_step (first | exact fun _ => rfl | rfl))
  refine quiet_any rfl (.slice (some ⟨g, 0, none⟩) N c) (fun w' hw' => by
    have c9 : w'.cell? ⟨bd, 0, none⟩ = some (.slice (some ⟨g, 0, none⟩) D.safe.length c) := (hw'.blk hb4.out (fun h => h)).cell 0
    rw [hN.out] at c9
    go_simp) ?_
  simp only [Act.put, List.setIfInBounds_toArray, List.set_cons_succ, List.set_cons_zero]
  repeat (go_big_quiet_step (first | exact fun _ => rfl | rfl))
  refine quiet_any rfl (.agg (aft.map yc).toArray) (fun w' hw' => by
    have hr := (Hold.of_blk (hw'.blk e4.out (fun h => h))).range 65 64
    rw [Wr.cells_aft _ hbl.out hpl.out] at hr
    exact exec_load_mid _ 93 (.tmp 39) rfl bo 65 rfl (aft.map yc) _ hr Tryz.underlying93 rfl (by rw [sizeS, List.length_map, hpl.out])) ?_
  simp only [Act.put, List.setIfInBounds_toArray, List.set_cons_succ, List.set_cons_zero]
  repeat (go_big_quiet_step (first | exact fun _ => rfl | rfl))
  refine wpQuiet_nil ?_
  intro w5 hC5
  replace hC5 := Box.mk hC5
  have hH5 : Box (Hold w5 g 93 (secCells D.stepD.seen)) := ⟨(Hold.of_row hs4.out).chg hC5.out (fun h => h)⟩
  have hfit5 : Box (n * 64 + (aft.map yc).length ≤ (secCells D.stepD.seen).length) := ⟨by rw [List.length_map, hpl.out, secCells_length _ hD1.out.ok.seen, hsl.out, hN.out]; omega⟩
  go_wp2_with (refine wpList_storeH rfl 93 (.tmp 41) (.tmp 40) rfl g (n * 64) 93 (secCells D.stepD.seen) (aft.map yc) rfl rfl hH5.out hfit5.out (yc_one _) (by rw [sizeS, List.length_map, hpl.out]) ?_; intro w6 hl6; replace hl6 := Box.mk hl6)
  have hb6 := Box.mk (hl6.out.chg.blk (hC5.out.blk hb4.out (fun h => h)) (fun hk => hs.out.apart hb.out (by decide) (by rw [hk]; rfl)))
  have e6 := Box.mk (hl6.out.chg.blk (hC5.out.blk e4.out (fun h => h)) (fun hk => hg4.out hk.symm))
  have hs6 : Box (Row w6 93 64 (.slice (some ⟨g, 0, none⟩) D.safe.length c) D.safe.length (secCells (D.stepD.seen.set n aft))) := ⟨by
    rw [← secCells_set _ _ _ hD1.out.ok.seen hpl.out (by rw [hsl.out, hN.out]; exact hn)]
    exact hl6.out.row _ _ _ (hs4.out.chg hC5.out (fun _ _ h => h))⟩
  have hp6 := Box.mk ((hp4.out.chg hC5.out (fun _ _ h => h)).chg hl6.out.chg (fun k hk hg => hs.out.unlike hp.out (by decide) g rfl (by rw [hk, hg])))
  have hC6 : Box (Chg (fun k => F k ∨ w.heap.size ≤ k) w w6) := ⟨by
    have h0 := hC1.out.mono (T := F) (fun i _ hi => by rw [hi]; exact h.out.fd)
    have h1 := Chg.of_below hB4.out
    have h2 := (h0.mono (T := fun k => F k ∨ w.heap.size ≤ k) (fun _ _ h => .inl h)).trans h1 (fun i hi hk => .inr (by rw [hz1.out] at hk; exact hk))
    have h3 := h2.trans hC5.out (fun _ _ h => h.elim)
    exact h3.trans hl6.out.chg (fun i _ hi => .inl (hF1.out i (by rw [hi]; rfl)))⟩
  clear hH5 hfit5 hC5 hl6 hb4 hs4 hp4 e4 hD4
  rw [Dev.step_ws] at hb6 hp6
  have hvs : Box (∀ k, (Value.slice pa D.ws.length pc).ownBlock = some k → g ≠ k ∧ bd ≠ k) := ⟨fun k hk => ⟨by
    rintro rfl
    exact hs6.out.unlike hp6.out (by decide) g rfl hk, by
    rintro rfl
    exact hp6.out.apart hb6.out (by decide) hk⟩⟩
  have hbd' := Box.mk (hb6.out)
  refine region_go (C := fun w' => Blk w' bo (Wr.cells ⟨n, bef, aft⟩) 95) rfl ?_
  have hCd := Box.mk (hC6.out.drew)
  have hbd : Box (Blk w6.drew bd _ 75) := ⟨hb6.out⟩
  have hed : Box (Blk w6.drew bo _ 95) := ⟨e6.out⟩
  have hsd : Box (Row w6.drew 93 64 _ _ _) := ⟨hs6.out⟩
  have hpd : Box (Row w6.drew 95 129 _ _ _) := ⟨hp6.out⟩
  generalize w6.drew = wd at hCd hbd hed hsd hpd ⊢
  clear hC6 hb6 e6 hs6 hp6 hbd'
  refine go_calms [0, 1, 2, 3, 5] 6 rfl (by kernel_rfl) (by kernel_rfl) (by kernel_rfl) hed.out ?_
  simp [nth]
  simp only [Act.put]
  repeat (go_big_quiet_step (first | exact fun _ => rfl | rfl))
  have hcl : Box ((Wr.cells ⟨n, bef, aft⟩).length = 129) := ⟨Wr.cells_length _ hbl.out hpl.out⟩
  refine quiet_any rfl (.agg (Wr.cells ⟨n, bef, aft⟩).toArray) (fun w' hw' => exec_load_mid _ 95 (.tmp 8) rfl bo 0 rfl (Wr.cells ⟨n, bef, aft⟩) _ (range_all hw') Tryz.underlying95 rfl (by rw [sizeW, hcl.out])) ?_
  simp only [Act.put, List.setIfInBounds_toArray, List.set_cons_succ, List.set_cons_zero]
  refine wpQuiet_nil ?_
  have c1 : wd.cell? ⟨bd, 1, none⟩ = some (.slice pa D.ws.length pc) := hbd.out.cell 1
  have hFp : Box (∀ k, (Value.slice pa D.ws.length pc).ownBlock = some k → F k) := ⟨fun k hk => hF2.out k (by rw [Dev.step_ws]; exact hk)⟩
  have hbo' : Box (∀ k, (Value.slice pa D.ws.length pc).ownBlock = some k → k ≠ bo) := ⟨fun k hk => by have h1 := h.out.lt k (hFp.out k hk); have h2 := hbo.out; have h3 := hz1.out; omega⟩
  have hbd0 : Box (bd ≠ bo) := ⟨by have h1 := h.out.lt bd h.out.fd; have h2 := hbo.out; have h3 := hz1.out; omega⟩
  refine go_fork 4 6 (by kernel_rfl) (goOp_wp 4 rfl rfl (fun K hK => ?_)) (goOp_wp 6 rfl rfl (fun K hK => ?_))
  · go_simp
    refine hK _ _ hed.out ?_
    clear hK K
    refine go_forced 6 (by kernel_rfl) (goOp_wp 6 rfl rfl (fun K hK => ?_))
    refine wp_slice1 73 95 (.tmp 47) rfl (Wr.cells ⟨n, bef, aft⟩) rfl iW zW Tryz.underlying73 hH.out.1 hH.out.2.1 (by rw [hH.out.2.2.1, hcl.out]) (by rw [hcl.out]; omega) (by rw [hcl.out]; omega) _ rfl ?_
    intro wa hba hca hza
    refine hK _ _ (hca.blk hed.out (fun h => h)) ?_
    clear hK K
    simp only [Act.put, List.setIfInBounds_toArray]
    refine go_forced 7 (by kernel_rfl) (goOp_wp 7 rfl rfl (fun K hK => ?_))
    refine wp_pushR (.tmp 46) (.tmp 48) 73 95 rfl iW zW 129 136 Tryz.underlying73 hH.out.1 hH.out.2.1 hH.out.2.2.1 hH.out.2.2.2.1 (by rw [hH.out.2.2.2.2]; simp [zeroW_length]) (by omega) (.slice pa D.ws.length pc) D.ws.length _ rfl (hpd.out.chg hca (fun _ _ h => h)) ⟨_, 0, none⟩ 1 1 (Wr.cells ⟨n, bef, aft⟩) rfl (by rw [hcl.out]) (fun j u hj => by rw [Addr.add_mid]; exact range_all hba j u hj) (Wr.cells_one _) (by have := hws.out; unfold maxLen; omega) (by have := hws.out; omega) ?_
    intro v7 w7 hp7
    have hfin := Box.mk (write_done h.out (by rw [hN.out]; exact hn) hbef.out hpl.out hCd.out hbd.out hsd.out (hF1.out g rfl) hFp.out hca hp7 hvs.out)
    obtain ⟨a7, c7, rfl⟩ := hp7.row.shape
    have hb7 := hp7.chg.blk (hca.blk hbd.out (fun h => h)) (fun hk => (hvs.out bd hk).2 rfl)
    have he7 := hp7.chg.blk (hca.blk hed.out (fun h => h)) (fun hk => hbo'.out bo hk rfl)
    have c7' : w7.cell? ⟨bd, 1, none⟩ = some (.slice pa D.ws.length pc) := hb7.cell 1
    have f7 := hb7.free 1
    have he8 := Box.mk ((chg1 w7 bd 1 (.slice a7 (D.ws.length + 1) c7)).blk he7 (fun hk => hbd0.out hk.symm))
    refine hK _ _ he7 ?_
    clear hK K c1 hb7 hp7 hba hca hza
    replace he7 := Box.mk he7
    simp only [Act.put]
    refine go_calms [8, 9] 1 rfl (by kernel_rfl) (by kernel_rfl) (by kernel_rfl) he7.out ?_
    simp [nth]
    repeat (go_big_quiet_step (first | exact fun _ => rfl | rfl))
    refine wpQuiet_nil ?_
    refine go_forced 10 (by kernel_rfl) (goOp_wp 10 rfl rfl (fun K hK => ?_))
    go_simp
    refine hK _ _ he8.out ?_
    clear hK K
    refine go_done (by kernel_rfl) ?_
    go_wp2_with fail
    go_ret
    exact ⟨rfl, by rw [haft.out]; exact hfin.out⟩
  ·
    refine wp_slice1 73 95 (.tmp 47) rfl (Wr.cells ⟨n, bef, aft⟩) rfl iW zW Tryz.underlying73 hH.out.1 hH.out.2.1 (by rw [hH.out.2.2.1, hcl.out]) (by rw [hcl.out]; omega) (by rw [hcl.out]; omega) _ rfl ?_
    intro wa hba hca hza
    refine hK _ _ (hca.blk hed.out (fun h => h)) ?_
    clear hK K
    simp only [Act.put, List.setIfInBounds_toArray]
    have c1a : wa.cell? ⟨bd, 1, none⟩ = some (.slice pa D.ws.length pc) := (hca.blk hbd.out (fun h => h)).cell 1
    have hea := Box.mk (hca.blk hed.out (fun h => h))
    refine go_forced 4 (by kernel_rfl) (goOp_wp 4 rfl rfl (fun K hK => ?_))
    go_simp
    refine hK _ _ hea.out ?_
    clear hK K c1a hea
    refine go_forced 7 (by kernel_rfl) (goOp_wp 7 rfl rfl (fun K hK => ?_))
    refine wp_pushR (.tmp 46) (.tmp 48) 73 95 rfl iW zW 129 136 Tryz.underlying73 hH.out.1 hH.out.2.1 hH.out.2.2.1 hH.out.2.2.2.1 (by rw [hH.out.2.2.2.2]; simp [zeroW_length]) (by omega) (.slice pa D.ws.length pc) D.ws.length _ rfl (hpd.out.chg hca (fun _ _ h => h)) ⟨_, 0, none⟩ 1 1 (Wr.cells ⟨n, bef, aft⟩) rfl (by rw [hcl.out]) (fun j u hj => by rw [Addr.add_mid]; exact range_all hba j u hj) (Wr.cells_one _) (by have := hws.out; unfold maxLen; omega) (by have := hws.out; omega) ?_
    intro v7 w7 hp7
    have hfin := Box.mk (write_done h.out (by rw [hN.out]; exact hn) hbef.out hpl.out hCd.out hbd.out hsd.out (hF1.out g rfl) hFp.out hca hp7 hvs.out)
    obtain ⟨a7, c7, rfl⟩ := hp7.row.shape
    have hb7 := hp7.chg.blk (hca.blk hbd.out (fun h => h)) (fun hk => (hvs.out bd hk).2 rfl)
    have he7 := hp7.chg.blk (hca.blk hed.out (fun h => h)) (fun hk => hbo'.out bo hk rfl)
    have c7' : w7.cell? ⟨bd, 1, none⟩ = some (.slice pa D.ws.length pc) := hb7.cell 1
    have f7 := hb7.free 1
    have he8 := Box.mk ((chg1 w7 bd 1 (.slice a7 (D.ws.length + 1) c7)).blk he7 (fun hk => hbd0.out hk.symm))
    refine hK _ _ he7 ?_
    clear hK K c1 hb7 hp7 hba hca hza
    replace he7 := Box.mk he7
    simp only [Act.put, List.setIfInBounds_toArray]
    refine go_calms [8, 9] 1 rfl (by kernel_rfl) (by kernel_rfl) (by kernel_rfl) he7.out ?_
    simp [nth]
    repeat (go_big_quiet_step (first | exact fun _ => rfl | rfl))
    refine wpQuiet_nil ?_
    refine go_forced 10 (by kernel_rfl) (goOp_wp 10 rfl rfl (fun K hK => ?_))
    go_simp
    refine hK _ _ he8.out ?_
    clear hK K
    refine go_done (by kernel_rfl) ?_
    go_wp2_with fail
    go_ret
    exact ⟨rfl, by rw [haft.out]; exact hfin.out⟩
end Go.Proofs.YthpfpkikmaiddaaGreatDoor.Pk


/- Walks of Barrier and kept; every call of Write and Read. -/
namespace Go.Proofs.YthpfpkikmaiddaaGreatDoor.Pk
open Go.RowKit

theorem DNext.small {w w' : World} {bd : Nat} {F : Nat → Prop} {D D' : Dev} (h : DAt w bd F D) (h1 : DAt w' bd F D') (hc : Chg (fun k => k = bd) w w') : DNext w bd F D' w' :=
  ⟨h1.wide (fun _ hk => .inl hk) fun k hk => by rcases hk with hk | hk; exact h1.lt k hk; exact hk.2, hc.mono fun i _ hi => by rw [hi]; exact h.fd⟩
theorem write_any (bd : Nat) (F : Nat → Prop) (D : Dev) (n : Int) (t : ByteArray) (w : World) (h : DAt w bd F D) (hk : D.taken ≤ 1000000) (hf : D.fall ≤ 9223372036854775807) (hws : D.ws.length ≤ 1000000) :
    Calls Tryz.prog 243 #[.pointer (some ⟨bd, 0, none⟩), .int .i64 n, .string t] w fun e w' => e = .returned (.int .i64 (D.writeE n t.data.toList)) ∧ DNext w bd F (D.write n t.data.toList) w' := by
  unfold Dev.writeE Dev.write
  by_cases hr : D.refused n = 0
  · have h0 : ¬ D.refused n ≠ 0 := fun h => h hr
    simp only [if_neg h0]
    by_cases ht : t.size ≤ 64
    · have h64 : ¬ 64 < t.data.toList.length := by rw [data_len]; omega
      simp only [if_neg h64]
      cases hg : D.goes with
      | true =>
        obtain ⟨h1, k, rfl, h2⟩ := refused_zero hr
        simpa using write_fit bd F D k t w h h1 h2 ht hk hf hws hg
      | false => exact (write_falls bd F D n t w h hr ht hk hf hg).mono fun e w' ⟨a, b, c, _⟩ => ⟨by rw [a]; rfl, by simpa using DNext.small h b c⟩
    · have h64 : 64 < t.data.toList.length := by rw [data_len]; omega
      simp only [if_pos h64]
      exact (write_long bd F D n t w h hr (by omega)).mono fun e w' ⟨a, b⟩ => ⟨a, b ▸ DNext.same h⟩
  · simp only [if_pos (show D.refused n ≠ 0 from hr)]
    exact (write_refused bd F D n t w h hr).mono fun e w' ⟨a, b⟩ => ⟨a, b ▸ DNext.same h⟩
theorem barrier_off (bd : Nat) (F : Nat → Prop) (D : Dev) (w : World) (h : DAt w bd F D) (hoff : D.off = true) :
    Calls Tryz.prog 244 #[.pointer (some ⟨bd, 0, none⟩)] w fun e w' => e = .returned (.int .i64 7) ∧ w = w' := by
  obtain ⟨vs, vp, hb, _, _, _, _⟩ := h.out
  have c4 : w.cell? ⟨bd, 4, none⟩ = some (.bool D.off) := hb.cell 4
  rw [hoff] at c4
  clear hb h hoff
  go_enter Tryz.func244, Tryz.ntmps244
  go_wp2_with fail
  go_ret
  exact ⟨rfl, rfl⟩
set_option maxHeartbeats 800000 in
theorem barrier_falls (bd : Nat) (F : Nat → Prop) (D : Dev) (w : World) (h : DAt w bd F D) (hoff : D.off = false) (hk : D.taken ≤ 1000000) (hf : D.fall ≤ 9223372036854775807) (hg : D.goes = false) :
    Calls Tryz.prog 244 #[.pointer (some ⟨bd, 0, none⟩)] w fun e w' => e = .returned (.int .i64 7) ∧ DNext w bd F D.stepD w' := by
  have hS := step_any bd F D w h hk hf
  rw [hg] at hS
  obtain ⟨vs, vp, hb, _, _, _, _⟩ := h.out
  have c4 : w.cell? ⟨bd, 4, none⟩ = some (.bool D.off) := hb.cell 4
  rw [hoff] at c4
  replace hS := Box.mk hS
  replace h := Box.mk h
  clear hb hoff hk hf hg
  go_enter Tryz.func244, Tryz.ntmps244
  go_wp2_with fail
  refine hS.out.mono ?_
  rintro e w1 ⟨rfl, hD1, hC1, _⟩
  have hR := Box.mk (DNext.small h.out hD1 hC1)
  clear hS hD1 hC1 c4
  go_wp2_with fail
  go_ret
  exact ⟨rfl, hR.out⟩
set_option maxHeartbeats 800000 in
theorem barrier_fit (bd : Nat) (F : Nat → Prop) (D : Dev) (w : World) (h : DAt w bd F D) (hoff : D.off = false) (hk : D.taken ≤ 1000000) (hf : D.fall ≤ 9223372036854775807) (hg : D.goes = true) :
    Calls Tryz.prog 244 #[.pointer (some ⟨bd, 0, none⟩)] w fun e w' => e = .returned (.int .i64 0) ∧ DNext w bd F { D.stepD with safe := D.seen, ws := [] } w' := by
  have hS := step_any bd F D w h hk hf
  rw [hg] at hS
  obtain ⟨vs, vp, hb, _, _, _, _⟩ := h.out
  have c4 : w.cell? ⟨bd, 4, none⟩ = some (.bool D.off) := hb.cell 4
  rw [hoff] at c4
  replace hS := Box.mk hS
  replace h := Box.mk h
  clear hb hoff hk hf hg
  go_enter Tryz.func244, Tryz.ntmps244
  go_wp2_with fail
  refine hS.out.mono ?_
  rintro e w1 ⟨rfl, hD1, hC1, _⟩
  have hseen : D.stepD.seen = D.seen := by unfold Dev.seen; rw [Dev.step_safe, Dev.step_ws]
  have hR : Box (DNext w bd F { D.stepD with safe := D.seen, ws := [] } (w1.setCell ⟨bd, 1, none⟩ (.slice none 0 0))) := ⟨by
    obtain ⟨vs, vp, hb, hs, hp, hF1, hF2⟩ := hD1.out
    have hc := chg1 w1 bd 1 (.slice none 0 0)
    refine DNext.small h.out ⟨⟨h.out.ok.seen, okW_nil _, by simp only [Dev.ok.seen_len]; exact h.out.ok.n⟩, ⟨vs, .slice none 0 0, hb.setCell 1 _, ?_, Row.nil _ _ _, hF1, fun k hk => by cases hk⟩, hD1.fd, fun k hk => Nat.lt_of_lt_of_le (hD1.lt k hk) hc.size⟩ ?_
    · have := hs.chg hc (fun k hk hb' => by subst hb'; exact hs.apart hb (by decide) hk)
      rw [hseen, Dev.step_safe] at this
      rw [show ({ D.stepD with safe := D.seen, ws := [] } : Dev).seen = D.seen from rfl]
      simp only [Dev.ok.seen_len]
      exact this
    · exact hC1.trans hc fun _ _ h => h⟩
  obtain ⟨vs, vp, hb, _, hp, _, _⟩ := hD1.out
  obtain ⟨pa, pc, rfl⟩ := hp.shape
  have c1 : w1.cell? ⟨bd, 1, none⟩ = some (.slice pa D.stepD.ws.length pc) := hb.cell 1
  have f1 := hb.free 1
  clear hS hD1 hC1 c4 hb hp hseen
  go_wp2_with fail
  go_ret
  exact ⟨rfl, hR.out⟩
theorem barrier_any (bd : Nat) (F : Nat → Prop) (D : Dev) (w : World) (h : DAt w bd F D) (hk : D.taken ≤ 1000000) (hf : D.fall ≤ 9223372036854775807) :
    Calls Tryz.prog 244 #[.pointer (some ⟨bd, 0, none⟩)] w fun e w' => e = .returned (.int .i64 D.barrierE) ∧ DNext w bd F D.barrier w' := by
  unfold Dev.barrierE Dev.barrier
  cases ho : D.off with
  | true => exact (barrier_off bd F D w h ho).mono fun e w' ⟨a, b⟩ => ⟨by simpa using a, by simpa [← b] using DNext.same h⟩
  | false =>
    cases hg : D.goes with
    | true => simpa using barrier_fit bd F D w h ho hk hf hg
    | false => simpa using barrier_falls bd F D w h ho hk hf hg

/-- A slice of integers, in a block of G. -/
structure Ints (w : World) (G : Nat → Prop) (v : Value) (l : List Int) : Prop where
  out : ∃ a c, v = .slice a l.length c ∧ (0 < l.length → ∃ cb co, a = some ⟨cb, co, none⟩ ∧ cb < w.heap.size ∧ G cb ∧ ∀ i, i < l.length → w.cell? ⟨cb, co + i, none⟩ = some (.int .i64 (l.getD i 0)))
theorem Ints.chg {S G : Nat → Prop} {w w' : World} {v : Value} {l : List Int} (h : Ints w G v l) (hc : Chg S w w') (hS : ∀ k, k < w.heap.size → G k → ¬ S k) : Ints w' G v l := by
  obtain ⟨a, c, rfl, hcs⟩ := h.out
  refine ⟨⟨a, c, rfl, fun h0 => ?_⟩⟩
  obtain ⟨cb, co, rfl, hl, hG, hcl⟩ := hcs h0
  exact ⟨cb, co, rfl, Nat.lt_of_lt_of_le hl hc.size, hG, fun i hi => by rw [← hcl i hi]; unfold World.cell?; rw [hc.block cb hl (hS cb hl hG)]⟩
set_option maxHeartbeats 400000 in
theorem kept_none (a : Option Addr) (c : Nat) (i : Nat) (w : World) :
    Calls Tryz.prog 50 #[.agg #[.slice a 0 c], .int .i64 (i : Int)] w fun e w' => e = .returned (.int .i64 0) ∧ Below w.heap.size w w' := by
  go_enter Tryz.func50, Tryz.ntmps50
  go_wp2_with fail
  go_ret
  exact ⟨rfl, (Below.refl _ _).alloc (Nat.le_refl _) _⟩
set_option maxHeartbeats 1600000 in
theorem kept_some (cb co L c i : Nat) (x : Int) (w : World) (hL : 0 < L) (hi : i ≤ 9223372036854775807) (hLm : L ≤ 9223372036854775807) (hcb : cb < w.heap.size) (hc : w.cell? ⟨cb, co + i % L, none⟩ = some (.int .i64 x)) :
    Calls Tryz.prog 50 #[.agg #[.slice (some ⟨cb, co, none⟩) L c], .int .i64 (i : Int)] w fun e w' => e = .returned (.int .i64 (min (max x 0) 64)) ∧ Below w.heap.size w w' := by
  have hm : (i : Int).tmod (L : Int) = ((i % L : Nat) : Int) := by rw [Int.tmod_eq_emod_of_nonneg (by omega)]; omega
  have hml : i % L < L := Nat.mod_lt _ hL
  have hB := Box.mk ((Below.refl w.heap.size w).alloc (Nat.le_refl _) (.cells #[.slice (some ⟨cb, co, none⟩) L c] 26))
  have hN : Blk (w.alloc (.cells #[.slice (some ⟨cb, co, none⟩) L c] 26)) w.heap.size [.slice (some ⟨cb, co, none⟩) L c] 26 := Blk.new w _ _
  obtain ⟨wb, hwb⟩ : ∃ wb, w.alloc (.cells #[.slice (some ⟨cb, co, none⟩) L c] 26) = wb := ⟨_, rfl⟩
  rw [hwb] at hB hN
  obtain ⟨bo, hbo⟩ : ∃ bo, w.heap.size = bo := ⟨_, rfl⟩
  rw [hbo] at hN
  have c0 : wb.cell? ⟨bo, 0, none⟩ = some (.slice (some ⟨cb, co, none⟩) L c) := hN.cell 0
  have c9 : wb.cell? ⟨cb, co + i % L, none⟩ = some (.int .i64 x) := by rw [hB.out.cell (p := ⟨cb, _, none⟩) hcb]; exact hc
  generalize i % L = j at *
  clear hN hc hcb
  go_enter Tryz.func50, Tryz.ntmps50
  go_wp2_with fail
  refine wp_region_quiet_lit (by kernel_rfl) (by kernel_rfl) ?_
  repeat (go_big_quiet_step (first | exact fun _ => rfl | rfl))
  refine wpQuiet_nil ?_
  rintro w' ⟨q, rfl⟩
  have hx0 : Box ((if x < 0 then 0 else x) = max x 0) := ⟨by split <;> omega⟩
  have hB2 : Box (Below w.heap.size w (wb.drewN q)) := ⟨⟨hB.out.os, hB.out.tape, hB.out.output, hB.out.size, hB.out.block⟩⟩
  obtain ⟨y, hy⟩ : ∃ y : Int, (if 64 < (if x < 0 then 0 else x) then 64 else (if x < 0 then 0 else x)) = y := ⟨_, rfl⟩
  have hxy : min (max x 0) 64 = y := by rw [← hy]; split <;> split <;> omega
  rw [hy]
  rw [hx0.out]
  replace hxy := Box.mk hxy
  obtain ⟨x0, hx1⟩ : ∃ x0, max x 0 = x0 := ⟨_, rfl⟩
  rw [hx1]
  replace hx1 := Box.mk hx1
  clear hy hB hwb hbo hx0
  go_wp2_with fail
  go_ret
  exact ⟨ret_i hxy.out.symm, hB2.out⟩
theorem kept_any (G : Nat → Prop) (v : Value) (keep : List Int) (i : Nat) (w : World) (h : Ints w G v keep) (hl : keep.length ≤ 9223372036854775807) (hi : i ≤ 9223372036854775807) :
    Calls Tryz.prog 50 #[.agg #[v], .int .i64 (i : Int)] w fun e w' => e = .returned (.int .i64 (keepAt keep i : Int)) ∧ Below w.heap.size w w' := by
  obtain ⟨a, c, rfl, hc⟩ := h.out
  by_cases h0 : keep.length = 0
  · have hk : keep = [] := List.eq_nil_of_length_eq_zero h0
    rw [h0]
    have e : keepAt keep i = 0 := by unfold keepAt; rw [if_pos hk]
    rw [e]
    exact kept_none a c i w
  · obtain ⟨cb, co, rfl, hlt, _, hcs⟩ := hc (by omega)
    have hm : i % keep.length < keep.length := Nat.mod_lt _ (by omega)
    have e : ((keepAt keep i : Nat) : Int) = min (max (keep.getD (i % keep.length) 0) 0) 64 := by
      unfold keepAt
      rw [if_neg (by rintro rfl; simp at h0)]
      omega
    rw [e]
    exact kept_some cb co keep.length c i _ w (by omega) hi hl hlt (hcs _ hm)
end Go.Proofs.YthpfpkikmaiddaaGreatDoor.Pk


/- slices.Backward over pending writes; undo. -/
namespace Go.Proofs.YthpfpkikmaiddaaGreatDoor.Pk
open Go.RowKit Go.Shelf
attribute [local go_sem] Oper.semAt_some

def noWr : Wr := ⟨0, zeroS, zeroS⟩
/-- A pending write with its number, of a device of N sectors. -/
abbrev Pk (N : Nat) := { x : Nat × Wr // x.2.at' < N ∧ x.2.bef.length = 64 ∧ x.2.aft.length = 64 }
def pkEnc {N : Nat} (x : Pk N) : Array Value := #[.int .i64 (x.1.1 : Int), .agg (Wr.cells x.1.2).toArray]
def okK (N : Nat) (l : List Wr) : Prop := ∀ i, (l.getD i noWr).at' < N ∧ (l.getD i noWr).bef.length = 64 ∧ (l.getD i noWr).aft.length = 64
def pk {N : Nat} (l : List Wr) (h : okK N l) (i : Nat) : Pk N := ⟨(i, l.getD i noWr), h i⟩
/-- The last k, the last one first. -/
def backL {N : Nat} (l : List Wr) (h : okK N l) (k : Nat) : List (Pk N) := (List.range k).map fun j => pk l h (l.length - 1 - j)
theorem backL_succ {N : Nat} (l : List Wr) (h : okK N l) (k : Nat) : backL l h (k + 1) = backL l h k ++ [pk l h (l.length - 1 - k)] := by simp [backL, List.range_succ]
theorem backL_length {N : Nat} (l : List Wr) (h : okK N l) (k : Nat) : (backL l h k).length = k := by simp [backL]

section
variable {P : Program} {w : World} {o : Oper}
theorem exec_alloc (ρ : Operand → Value) (ty : TypeId) (ho : o.op = .alloc ty) (i : TypeInfo) (z : Value) (L : List Value) (hi : P.info? ty = some i) (hz : i.zero = some z) (hL : z.cells = L.toArray) :
    (execOp ρ o).run P w = .ok (.value (.pointer (some ⟨w.heap.size, 0, none⟩))) (w.alloc (.cells L.toArray ty)) := by
  unfold execOp
  simp [ho, Instr.alloc, zeroValue, typeInfo, hi, hz, newVar, newRow, hL]
theorem exec_storeH (ρ : Operand → Value) (ty : TypeId) (x y : Operand) (ho : o.op = .store ty x y) (g off : Nat) (vs : List Value) (hx : ρ x = .pointer (some ⟨g, off, none⟩)) (hy : ρ y = .agg vs.toArray)
    (w' : World) (hr : (storeVar ty ⟨g, off, none⟩ (.agg vs.toArray)).run P w = .ok () w') : (execOp ρ o).run P w = .ok .skip w' := by
  unfold execOp
  simp only [ho, hx, hy, Instr.storeAt, Instr.sureAddr, Sem.run_bind, Sem.run_pure, Result.andThen_ok, hr]
end

set_option maxRecDepth 100000 in
set_option maxHeartbeats 2000000 in
theorem back1_in (F : Fence) (n : Nat) (hf : F.fn 159) (hro : F.round = none) (hn : 1 ≤ n) (l Bs N cap : Nat) (a : Option Addr) (S : Nat → Prop) (pl : List Wr) (hP : okK N pl) (hbig : pl.length ≤ 1000000) (J Jx : List (Pk N) → World → Prop)
    (hY : ∀ pre x W, J pre W → pre.length < pl.length → YieldAt F (n - 1) Tryz.prog l (pkEnc x) W fun e W' =>
      (e = .returned (.bool true) ∧ J (pre ++ [x]) W' ∧ Chg S W W') ∨ (e = .returned (.bool false) ∧ Jx (pre ++ [x]) W'))
    (W : World) (hBs : W.cell? ⟨Bs, 0, none⟩ = some (.slice a pl.length cap)) (hBlt : Bs < W.heap.size) (hBS : ¬ S Bs) (hc : 0 < pl.length → ∃ b, a = some ⟨b, 0, none⟩ ∧ ¬ S b ∧ Hold W b 95 (wrCells pl)) (h0 : J [] W) :
    CallsIn F n Tryz.prog 159 #[.func (.yield l) #[] #[], .pointer (some ⟨Bs, 0, none⟩)] W fun e W' => (∃ v, e = .returned v) ∧
      ((∃ ys, ys = backL pl hP pl.length ∧ J ys W') ∨ (∃ pre, (∃ k, k ≤ pl.length ∧ pre = backL pl hP k) ∧ Jx pre W')) := by
  obtain ⟨M, hM⟩ : ∃ M, pl.length = M := ⟨_, rfl⟩
  have hkc : ∀ (wr : World), Chg S W wr → wr.cell? ⟨Bs, 0, none⟩ = some (.slice a M cap) := fun wr hk => by
    rw [← hM, ← hBs]
    unfold World.cell?
    rw [hk.block Bs hBlt hBS]
  rw [hM] at hbig hBs hc
  replace hkc := Box.mk hkc
  replace hc := Box.mk hc
  replace hM := Box.mk hM
  refine callsIn_of_wp Tryz.func159 rfl hf ?_ hro
  simp only [Tryz.ntmps159, List.size_toArray, List.length_cons, List.length_nil, Nat.reduceAdd, Nat.reduceSub, Array.replicate_succ, Array.replicate_zero, List.push_toArray, List.append_toArray, List.nil_append, List.cons_append]
  gi_wp2
  gi_loopw [3] (fun i wr => ∃ k j : Nat, k + j = M ∧ i = .int .i64 ((j : Int) - 1) ∧ J (backL pl hP k) wr ∧ Box (Chg S W wr))
    (fun i _ => (intOf i + 1).toNat)
  case atStart => exact ⟨0, M, by omega, rfl, h0, ⟨Chg.refl _ _⟩⟩
  case round =>
    obtain ⟨k, j, hkj, rfl, hJs, hnx⟩ := hrel
    have hcs := hkc.out wr hnx.out
    cases j with
    | zero =>
      gi_wp2
      go_end0
      exact ⟨⟨_, rfl⟩, .inl ⟨_, by rw [hM.out, show M = k by omega], hJs⟩⟩
    | succ j =>
      have e1 : ((j + 1 : Nat) : Int) - 1 = (j : Int) := by omega
      rw [e1]
      clear e1
      obtain ⟨b, rfl, hbS, hb⟩ := hc.out (by omega)
      have hb' := hb.chg hnx.out hbS
      have hxx : Box (pk pl hP j = pk pl hP (pl.length - 1 - k)) := ⟨by rw [hM.out, show M - 1 - k = j by omega]⟩
      obtain ⟨fn, tmps, assign, body, hy, hR⟩ := hY _ (pk pl hP j) wr hJs (by rw [backL_length, hM.out]; omega)
      simp only [pkEnc, pk] at hy
      have hr := hb'.range (j * 129) 129
      have hjl : j < pl.length := by rw [hM.out]; omega
      have hoP : okP pl := fun x hx => by
        obtain ⟨i, hi, rfl⟩ := List.getElem_of_mem hx
        have := hP i
        rw [List.getD_eq_getElem?_getD, List.getElem?_eq_getElem hi] at this
        exact this.2
      rw [wrCells_get _ _ hoP hjl] at hr
      have hg : pl[j] = pl.getD j noWr := by rw [List.getD_eq_getElem?_getD, List.getElem?_eq_getElem hjl]; rfl
      rw [hg] at hr
      have hl : (pl.getD j noWr).cells.length = 129 := Wr.cells_length _ (hP j).2.1 (hP j).2.2
      generalize pl.getD j noWr = q at hr hl hy
      replace hr := Box.mk hr
      replace hl := Box.mk hl
      have hjM : j < M := by omega
      clear hg hoP hjl hb hb' hbS
      gi_wp2_with (refine wpListIn_value rfl rfl (exec_load_mid _ 95 (.tmp 15) rfl b (j * 129) rfl (Wr.cells q) _ hr.out Tryz.underlying95 rfl (by rw [sizeW, hl.out])) ?_)
      refine hR.mono ?_
      rintro e W3 (⟨rfl, hJ3, hk3⟩ | ⟨rfl, hJx3⟩)
      · have hk4 := Box.mk (hnx.out.trans hk3 fun _ _ h => h)
        have e2 : Box ((j : Int) - 1 = (j : Int) - 1) := ⟨rfl⟩
        gi_wp2
        go_roundw
        case rel => exact ⟨k + 1, j, by omega, rfl, by rw [backL_succ, ← hxx.out]; exact hJ3, hk4⟩
        case measure => simp [intOf]
      · gi_wp2
        refine bodyPost_ret (results_none rfl _ _ _) rfl ?_
        exact ⟨⟨_, rfl⟩, .inr ⟨_, ⟨k + 1, by rw [hM.out]; omega, by rw [backL_succ, hxx.out]⟩, hJx3⟩⟩
set_option maxHeartbeats 1000000 in
theorem back_in (F : Fence) (n : Nat) (hf : F.fn 98) (hro : F.round = none) (a : Option Addr) (len cap : Nat) (w : World) :
    CallsIn F n Tryz.prog 98 #[.slice a len cap] w fun e w' => e = .returned (.func (.func 159) #[] #[.pointer (some ⟨w.heap.size, 0, none⟩)]) ∧ w' = w.alloc (.cells #[.slice a len cap] 73) := by
  refine callsIn_of_wp Tryz.func98 rfl hf ?_ hro
  simp only [Tryz.ntmps98, List.size_toArray, List.length_cons, List.length_nil, Nat.reduceAdd, Nat.reduceSub, Array.replicate_succ, Array.replicate_zero, List.push_toArray, List.append_toArray, List.nil_append, List.cons_append]
  gi_wp2
  go_ret
  exact ⟨rfl, rfl⟩
theorem back_stops (F : Fence) (n : Nat) (hf : F.fn 159) (hro : F.round = none) (hn : 1 ≤ n) (Bs N cap : Nat) (a : Option Addr) (S : Nat → Prop) (pl : List Wr) (hP : okK N pl) (hbig : pl.length ≤ 1000000)
    (w : World) (hBs : w.cell? ⟨Bs, 0, none⟩ = some (.slice a pl.length cap)) (hBlt : Bs < w.heap.size) (hBS : ¬ S Bs) (hc : 0 < pl.length → ∃ b, a = some ⟨b, 0, none⟩ ∧ ¬ S b ∧ Hold w b 95 (wrCells pl)) :
    SeqStopsK F n Tryz.prog 159 #[.pointer (some ⟨Bs, 0, none⟩)] (pkEnc (N := N)) (Chg S) (fun ys => ys = backL pl hP pl.length) (fun pre => ∃ k, k ≤ pl.length ∧ pre = backL pl hP k) pl.length w := fun l J Jx W hW _ _ hY h0 => by
  refine back1_in F n hf hro hn l Bs N cap a S pl hP hbig J Jx hY W ?_ (Nat.lt_of_lt_of_le hBlt hW.size) hBS (fun h => ?_) h0
  · rw [← hBs]; exact hW.cell (p := ⟨Bs, 0, none⟩) hBlt
  · obtain ⟨b, h1, h2, h3⟩ := hc h
    exact ⟨b, h1, h2, h3.chg (Chg.of_below hW) (by have := h3.lt; omega)⟩

/-- Sectors behind the undoing of some writes. -/
def undoL {N : Nat} (s : List Sec) (pre : List (Pk N)) : List Sec := pre.foldl (fun s x => s.set x.1.2.at' x.1.2.bef) s
theorem undoL_snoc {N : Nat} (s : List Sec) (pre : List (Pk N)) (x : Pk N) : undoL s (pre ++ [x]) = (undoL s pre).set x.1.2.at' x.1.2.bef := by simp [undoL]
theorem undoL_length {N : Nat} (s : List Sec) (pre : List (Pk N)) : (undoL s pre).length = s.length := by
  induction pre generalizing s with
  | nil => rfl
  | cons x pre ih => rw [show undoL s (x :: pre) = undoL (s.set x.1.2.at' x.1.2.bef) pre from rfl, ih]; simp
theorem undoL_ok {N : Nat} {s : List Sec} (h : okS s) (pre : List (Pk N)) : okS (undoL s pre) := by
  induction pre generalizing s with
  | nil => exact h
  | cons x pre ih => exact ih (okS_set h _ x.2.2.1)
theorem undo_all {N : Nat} (s : List Sec) (ws : List WrD) (hw : okW s.length ws) (hP : okK N (pendW s ws)) : ∀ k, k ≤ ws.length → undoL (runW s ws) (backL (pendW s ws) hP k) = runW s (ws.take (ws.length - k))
  | 0, _ => by rw [Nat.sub_zero, List.take_of_length_le (Nat.le_refl _)]; rfl
  | k + 1, hk => by
    have hi : ws.length - 1 - k < ws.length := by omega
    have e : (pendW s ws).getD (ws.length - 1 - k) noWr = ⟨(ws[ws.length - 1 - k]).1, (runW s (ws.take (ws.length - 1 - k))).getD (ws[ws.length - 1 - k]).1 zeroS, (ws[ws.length - 1 - k]).2⟩ := by
      rw [List.getD_eq_getElem?_getD, pendW_get s ws _ hi]; rfl
    rw [backL_succ, undoL_snoc, undo_all s ws hw hP k (by omega), pendW_length]
    simp only [pk, e]
    have h1 := runW_undo s ws (ws.length - 1 - k) hi hw
    rw [show ws.length - 1 - k + 1 = ws.length - k by omega] at h1
    rw [h1, show ws.length - (k + 1) = ws.length - 1 - k by omega]
theorem okK_pend {N : Nat} (s : List Sec) (ws : List WrD) (hs : okS s) (hw : okW s.length ws) (hN : N = s.length) (h0 : 0 < N) : okK N (pendW s ws) := fun i => by
  subst hN
  by_cases hi : i < ws.length
  · have e : (pendW s ws).getD i noWr = ⟨(ws[i]).1, (runW s (ws.take i)).getD (ws[i]).1 zeroS, (ws[i]).2⟩ := by
      rw [List.getD_eq_getElem?_getD, pendW_get s ws _ hi]; rfl
    rw [e]
    have := hw _ (List.getElem_mem hi)
    exact ⟨this.1, okS_getD (okS_runW hs (okW_take hw i)) _, this.2⟩
  · have e : (pendW s ws).getD i noWr = noWr := by
      rw [List.getD_eq_getElem?_getD, List.getElem?_eq_none (by rw [pendW_length]; omega)]; rfl
    rw [e]
    exact ⟨h0, zeroS_length, zeroS_length⟩
end Go.Proofs.YthpfpkikmaiddaaGreatDoor.Pk


/- undo. -/
namespace Go.Proofs.YthpfpkikmaiddaaGreatDoor.Pk
open Go.RowKit Go.Shelf
attribute [local go_sem] Oper.semAt_some

theorem chg_put {S : Nat → Prop} {B : Nat} (hS : ∀ k, B ≤ k → S k) (W : World) (l : Nat) (o' : Obj) (hl : B ≤ l) : Chg S W (W.putObj l o') := by
  have h := grownBy_putObj' W l o'
  exact ⟨h.os, h.tape, h.output, h.size, fun k hk hn => h.block k hk (fun e => hn (hS k (by cases e; exact hl)))⟩
theorem chg_own {S : Nat → Prop} {w : World} {β : Type} : OwnFrom w.heap.size (fun (_ : β) W => Chg S w W) := fun _ X Y row hs hg hr => by
  refine ⟨hg.os.trans hs.os, hg.tape.trans hs.tape, hg.output.trans hs.output, Nat.le_trans hs.size hg.size, fun k hk hn => ?_⟩
  refine (hg.block k (Nat.lt_of_lt_of_le hk hs.size) (fun e => ?_)).trans (hs.block k hk hn)
  have := (hr k e.symm).1; omega
theorem row_own {w : World} {β : Type} {e : TypeId} {size n : Nat} {v : Value} (f : β → List Value) (hv : ∀ k, v.ownBlock = some k → k < w.heap.size) : OwnFrom w.heap.size (fun (b : β) W => Row W e size v n (f b)) := fun b X Y row hs hg hr =>
  hs.kept fun k hk => hg.block k (hs.lt k hk) (fun e => by have h1 := (hr k e.symm).1; have h2 := hv k hk; omega)
theorem keeps_chg {S : Nat → Prop} {B : Nat} {W W' : World} (hc : Chg S W W') (hn : ∀ (k : Nat) (o : Obj), W.heap[k]? = some o → o.isCells = false → ¬ S k) : KeepsFrom B W W' :=
  ⟨hc.size, fun k o _ hk ho => (hc.block k (Array.getElem?_eq_some_iff.1 hk).1 (hn k o hk ho)).trans hk⟩
theorem act_eq {F : Fence} {n : Nat} {P : Program} {c : Code} {Q : Exit → Act → World → Prop} {a a' : Act} {w : World} (h : a = a') (k : c.wpIn F n P Q a' w) : c.wpIn F n P Q a w := h ▸ k
theorem blk_own {w : World} {β : Type} {b : Nat} {cs : List Value} {t : TypeId} : OwnFrom w.heap.size (fun (_ : β) W => Blk W b cs t) := fun _ X Y row hs hg hr =>
  (hg.block b hs.lt (fun e => by
    obtain ⟨_, o, ho, hc⟩ := hr b e.symm
    have h2 : X.heap[b]? = some (.cells cs.toArray t (0, 0)) := hs
    rw [h2] at ho; cases ho; cases hc)).trans hs

set_option maxRecDepth 100000 in
set_option maxHeartbeats 4000000 in
theorem undo_in (bd : Nat) (F : Nat → Prop) (D : Dev) (w : World) (h : DAt w bd F D) (h0 : 0 < D.safe.length) (hws : D.ws.length ≤ 1000000)
    (g c : Nat) (pa : Option Addr) (pc : Nat) (hb : Blk w bd [.slice (some ⟨g, 0, none⟩) D.safe.length c, .slice pa D.ws.length pc, .int .i64 (D.taken : Int), .int .i64 (D.fall : Int), .bool D.off] 75)
    (hs : Row w 93 64 (.slice (some ⟨g, 0, none⟩) D.safe.length c) D.safe.length (secCells D.seen)) (hp : Row w 95 129 (.slice pa D.ws.length pc) D.ws.length (wrCells (pendW D.safe D.ws))) :
    CallsIn Fence.wide 9 Tryz.prog 49 #[.pointer (some ⟨bd, 0, none⟩)] w fun e W' => e = .returned (.tuple #[]) ∧ Row W' 93 64 (.slice (some ⟨g, 0, none⟩) D.safe.length c) D.safe.length (secCells D.safe) ∧ Chg (fun k => k = g ∨ w.heap.size ≤ k) w W' := by
  have hP : okK D.safe.length (pendW D.safe D.ws) := okK_pend _ _ h.ok.s h.ok.w rfl h0
  have hgl := hs.lt g rfl
  have hbl := hb.lt
  have hgb : g ≠ bd := by
    rintro rfl
    exact hs.apart hb (by decide) rfl
  obtain ⟨wb, hwb⟩ : ∃ wb, w.alloc (.cells #[.pointer (some ⟨bd, 0, none⟩)] 28) = wb := ⟨_, rfl⟩
  have hnb := Blk.new w [.pointer (some ⟨bd, 0, none⟩)] 28
  rw [hwb] at hnb
  have hcb : Chg (fun _ => False) w wb := hwb ▸ (Chg.refl _ _).alloc _
  have hzb : wb.heap.size = w.heap.size + 1 := by rw [← hwb]; simp
  obtain ⟨b1, hb1⟩ : ∃ b1, w.heap.size = b1 := ⟨_, rfl⟩
  rw [hb1] at hnb
  have c1 : wb.cell? ⟨b1, 0, none⟩ = some (.pointer (some ⟨bd, 0, none⟩)) := hnb.cell 0
  have cp : wb.cell? ⟨bd, 1, none⟩ = some (.slice pa D.ws.length pc) := (hcb.blk hb (fun h => h)).cell 1
  obtain ⟨wc, hwc⟩ : ∃ wc, wb.alloc (.cells #[.slice pa D.ws.length pc] 73) = wc := ⟨_, rfl⟩
  have hnc := Blk.new wb [.slice pa D.ws.length pc] 73
  rw [hwc] at hnc
  have hcc : Chg (fun _ => False) wb wc := hwc ▸ (Chg.refl _ _).alloc _
  have hzc : wc.heap.size = wb.heap.size + 1 := by rw [← hwc]; simp
  obtain ⟨b2, hb2⟩ : ∃ b2, wb.heap.size = b2 := ⟨_, rfl⟩
  rw [hb2] at hnc
  have hcw := hcb.trans hcc (fun _ _ h => h)
  have hB1 := Box.mk (hcc.blk hnb (fun h => h))
  have hBd := Box.mk (hcw.blk hb (fun h => h))
  have hS := Box.mk (hs.chg hcw (fun _ _ h => h))
  have hPr := Box.mk (hp.chg hcw (fun _ _ h => h))
  have hz : Box (wc.heap.size = b1 + 2 ∧ b2 = b1 + 1 ∧ w.heap.size = b1) := ⟨by omega⟩
  have hpS : Box (∀ k, (Value.slice pa D.ws.length pc).ownBlock = some k → ¬ (k = g ∨ wc.heap.size ≤ k)) := ⟨fun k hk hc => by
    have h1 := hp.lt k hk
    rcases hc with rfl | h2
    · exact hs.unlike hp (by decide) k rfl hk
    · omega⟩
  replace hgb := Box.mk hgb
  replace hnc := Box.mk hnc
  replace hcw := Box.mk hcw
  have hgl1 : Box (g < b1 ∧ bd < b1) := ⟨by omega⟩
  replace h := Box.mk h
  replace hP := Box.mk hP
  replace hws := Box.mk hws
  clear hcb hcc hzb hzc hb hs hp hnb hgl hbl
  refine callsIn_of_wp_marks Tryz.func49 rfl trivial ?_ rfl
  simp only [Tryz.ntmps49, List.size_toArray, List.length_cons, List.length_nil, Nat.reduceAdd, Nat.reduceSub, Array.replicate_succ, Array.replicate_zero, List.push_toArray, List.append_toArray, List.nil_append, List.cons_append]
  gi_wp2
  refine ⟨trivial, (back_in Fence.wide 8 trivial rfl _ _ _ _).mono ?_⟩
  rintro e w' ⟨rfl, hw'⟩
  rw [hwc] at hw'
  subst hw'
  rw [hb2]
  clear hwc hb2 hwb hb1 c1 cp
  gi_wp2
  have hc2 : w'.cell? ⟨b2, 0, none⟩ = some (.slice pa (pendW D.safe D.ws).length pc) := by rw [pendW_length]; exact hnc.out.cell 0
  refine wpIn_rangeFunc_ownH rfl (by omega) (gf := 159) (lb := #[.pointer (some ⟨b2, 0, none⟩)]) rfl trivial (enters_of Tryz.func159 (by kernel_rfl) rfl)
    (back_stops Fence.wide 8 trivial rfl (by omega) b2 D.safe.length pc pa (fun k => k = g ∨ w'.heap.size ≤ k) (pendW D.safe D.ws) hP.out (by rw [pendW_length]; exact hws.out) w' hc2 hnc.out.lt (by have h1 := hz.out; have h2 := hgl1.out; have h3 := hnc.out.lt; omega)
      (fun hpos => by
        rw [pendW_length] at hpos
        obtain ⟨b, c2, e2, hbl⟩ := hPr.out.some hpos
        cases e2
        exact ⟨b, rfl, hpS.out b rfl, Hold.of_row hPr.out⟩))
    (fun h k => h.trans k (fun _ _ h => h)) (fun W l _ o' hl _ _ _ => chg_put (fun k hk => .inr hk) W l o' hl) (Below.refl _ _) (fun _ => rfl)
    (fun pre W => Row W 93 64 (.slice (some ⟨g, 0, none⟩) D.safe.length c) D.safe.length (secCells (undoL D.seen pre)) ∧ Chg (fun k => k = g ∨ w'.heap.size ≤ k) w' W)
    (fun _ _ _ => False)
    (OwnFrom.and (row_own (fun pre => secCells (undoL D.seen pre)) (fun k hk => by have h1 := hz.out; have h2 := hgl1.out; simp [Value.ownBlock] at hk; omega)) chg_own)
    (fun _ _ _ _ _ hs _ _ => hs)
    ⟨hS.out, Chg.refl _ _⟩
    (fun x a' W => ∃ Bx, w'.heap.size ≤ Bx ∧ Blk W Bx (Wr.cells x.1.2) 95 ∧ a' = { tmps := #[.pointer (some ⟨bd, 0, none⟩), .pointer (some ⟨b1, 0, none⟩), undef, .pointer (some ⟨Bx, 0, none⟩), .pointer (some ⟨bd, 0, none⟩), .pointer (some ⟨bd, 0, none⟩), .pointer (some ⟨bd, 1, none⟩), .slice pa D.ws.length pc, .func (.func 159) #[] #[.pointer (some ⟨b2, 0, none⟩)], .int .i64 (x.1.1 : Int), .agg (Wr.cells x.1.2).toArray, undef, undef, undef, undef, undef, undef, undef, undef, undef], defers := [] })
    (fun x a' _ X Y row hs hg hr => by obtain ⟨Bx, h1, h2, h3⟩ := hs; exact ⟨Bx, h1, blk_own () X Y row h2 hg hr, h3⟩)
    ?assign ?body ?done ?stop
  case assign =>
    rintro l pre x W K ⟨hrow, hC⟩ hK
    obtain ⟨iW, zW, hiW, hzW, hiW1, hiW2, hLW⟩ := info_cells infoW
    have hxl : (Wr.cells x.1.2).length = 129 := Wr.cells_length _ x.2.2.1 x.2.2.2
    obtain ⟨W2, hr2, hl2⟩ := run_storeH (P := Tryz.prog) (w := W.alloc (.cells zeroW.toArray 95)) W.heap.size 0 95 95 zeroW (Wr.cells x.1.2) (Hold.of_blk (Blk.new W zeroW _)) (by rw [hxl, zeroW_length]; omega) (Wr.cells_one _) (by rw [sizeW, hxl])
    have hb2 := hl2.blk (Blk.new W zeroW _)
    rw [spl_full _ _ (by rw [hxl, zeroW_length])] at hb2
    have hW2 : Chg (fun k => k = W.heap.size) W W2 := (((Chg.refl (fun _ => False) W).alloc (.cells zeroW.toArray 95)).mono (T := fun k => k = W.heap.size) (fun _ _ h => h.elim)).trans hl2.chg (fun _ _ h => h)
    have hsW := hC.size
    have hgW := hrow.lt g rfl
    have hK2 := hK { tmps := #[.pointer (some ⟨bd, 0, none⟩), .pointer (some ⟨b1, 0, none⟩), undef, .pointer (some ⟨W.heap.size, 0, none⟩), .pointer (some ⟨bd, 0, none⟩), .pointer (some ⟨bd, 0, none⟩), .pointer (some ⟨bd, 1, none⟩), .slice pa D.ws.length pc, .func (.func 159) #[] #[.pointer (some ⟨b2, 0, none⟩)], .int .i64 (x.1.1 : Int), .agg (Wr.cells x.1.2).toArray, undef, undef, undef, undef, undef, undef, undef, undef, undef], defers := [] } W2
      (keeps_chg hW2 (fun k o hk _ e => by have := (Array.getElem?_eq_some_iff.1 hk).1; omega)) (hW2.mono (fun i _ hi => .inr (by omega)))
      ⟨hrow.chg hW2 (fun k hk e => by simp [Value.ownBlock] at hk; omega), hC.trans hW2 (fun i _ hi => .inr (by omega))⟩ ⟨W.heap.size, hsW, hb2, rfl⟩
    replace hK2 := Box.mk hK2
    replace hr2 := Box.mk hr2
    replace hiW := Box.mk (And.intro hiW (And.intro hzW hLW))
    clear hzW hiW1 hiW2 hLW hl2 hb2 hW2 hrow hC hK hsW hgW
    refine act_eq (a' := { tmps := #[.pointer (some ⟨bd, 0, none⟩), .pointer (some ⟨b1, 0, none⟩), undef, undef, .pointer (some ⟨bd, 0, none⟩), .pointer (some ⟨bd, 0, none⟩), .pointer (some ⟨bd, 1, none⟩), .slice pa D.ws.length pc, .func (.func 159) #[] #[.pointer (some ⟨b2, 0, none⟩)], .int .i64 (x.1.1 : Int), .agg (Wr.cells x.1.2).toArray, undef, undef, undef, undef, undef, undef, undef, undef, undef], defers := [] }) (by simp [pkEnc]) ?_
    gi_wp2_with (first
      | (refine wpListIn_value rfl rfl (exec_alloc _ 95 rfl iW zW zeroW hiW.out.1 hiW.out.2.1 hiW.out.2.2) ?_)
      | (refine wpListIn_none rfl rfl (exec_storeH _ 95 (.tmp 3) (.tmp 10) rfl W.heap.size 0 (Wr.cells x.1.2) rfl rfl W2 hr2.out) ?_))
    exact hK2.out
  case body =>
    rintro l pre x a' W hl hr ⟨hrow, hC⟩ ⟨Bx, hBx, hblk, rfl⟩ hlt
    have hz1 := hz.out
    have hg1 := hgl1.out
    have hB1W := Box.mk (hC.blk hB1.out (show ¬ (b1 = g ∨ w'.heap.size ≤ b1) by omega))
    have hBdW := Box.mk (hC.blk hBd.out (show ¬ (bd = g ∨ w'.heap.size ≤ bd) by have := hgb.out; omega))
    have hxb := x.2.2.1
    have hul : (undoL D.seen pre).length = D.safe.length := by rw [undoL_length]; exact Dev.ok.seen_len
    have hCW : Box (Chg (fun k => k = g) W W.drew) := ⟨(Chg.refl _ _).drew⟩
    have hgBx : Box (g ≠ Bx ∧ g ≠ bd ∧ g ≠ b1) := ⟨by have := hgb.out; omega⟩
    replace hxb := Box.mk hxb
    replace hrow := Box.mk hrow
    replace hC := Box.mk hC
    replace hblk := Box.mk hblk
    replace hul := Box.mk hul
    clear hz1 hg1 hr hl hlt
    obtain ⟨N, hN⟩ : ∃ N, D.safe.length = N := ⟨_, rfl⟩
    have hxN : x.1.2.at' < N := Nat.lt_of_lt_of_eq x.2.1 hN
    replace hN := Box.mk hN
    gi_wp2_with fail
    refine region_go_in (C := fun V => Chg (fun k => k = g) W V) rfl (by kernel_rfl) ?_
    refine go_calms [0, 1, 2, 3, 4, 5, 6, 7, 8] 1 rfl (by kernel_rfl) (by kernel_rfl) (by kernel_rfl) hCW.out ?_
    simp [nth]
    refine quiet_any rfl (.pointer (some ⟨bd, 0, none⟩)) (fun V hV => by
      have c9 : V.cell? ⟨b1, 0, none⟩ = some (.pointer (some ⟨bd, 0, none⟩)) := (hV.blk hB1W.out (fun h => hgBx.out.2.2 h.symm)).cell 0
      go_simp) ?_
    simp only [Act.put, List.setIfInBounds_toArray, List.set_cons_succ, List.set_cons_zero]
    repeat (go_big_quiet_step (first | exact fun _ => rfl | rfl))
    refine quiet_any rfl (.slice (some ⟨g, 0, none⟩) N c) (fun V hV => by
      have c9 : V.cell? ⟨bd, 0, none⟩ = some (.slice (some ⟨g, 0, none⟩) D.safe.length c) := (hV.blk hBdW.out (fun h => hgBx.out.2.1 h.symm)).cell 0
      rw [hN.out] at c9
      go_simp) ?_
    simp only [Act.put, List.setIfInBounds_toArray, List.set_cons_succ, List.set_cons_zero]
    repeat (go_big_quiet_step (first | exact fun _ => rfl | rfl))
    refine quiet_any rfl (.int .i64 (x.1.2.at' : Int)) (fun V hV => by
      have c9 : V.cell? ⟨Bx, 0, none⟩ = some (.int .i64 (x.1.2.at' : Int)) := (hV.blk hblk.out (fun h => hgBx.out.1 h.symm)).cell 0
      go_simp) ?_
    simp only [Act.put, List.setIfInBounds_toArray, List.set_cons_succ, List.set_cons_zero]
    repeat (go_big_quiet_step (first | exact fun _ => rfl | rfl))
    refine quiet_any rfl (.agg (x.1.2.bef.map yc).toArray) (fun V hV => by
      have hr := (Hold.of_blk (hV.blk hblk.out (fun h => hgBx.out.1 h.symm))).range 1 64
      rw [Wr.cells_bef _ hxb.out] at hr
      exact exec_load_mid _ 93 (.tmp 17) rfl Bx 1 rfl (x.1.2.bef.map yc) _ hr Tryz.underlying93 rfl (by rw [sizeS, List.length_map, hxb.out])) ?_
    simp only [Act.put, List.setIfInBounds_toArray, List.set_cons_succ, List.set_cons_zero]
    repeat (go_big_quiet_step (first | exact fun _ => rfl | rfl))
    refine wpQuiet_nil ?_
    refine go_forced 9 (by kernel_rfl) (goOp_wp 9 rfl rfl (fun K hK => ?_))
    refine wp_storeH 93 (.tmp 19) (.tmp 18) rfl g (x.1.2.at' * 64) 93 (secCells (undoL D.seen pre)) (x.1.2.bef.map yc) rfl rfl
      ((Hold.of_row hrow.out).chg (S := fun _ => False) ((Chg.refl _ _).drew) (fun h => h)) (by rw [List.length_map, hxb.out, secCells_length _ (undoL_ok h.out.ok.seen pre), hul.out]; have hlt := x.2.1; omega) (yc_one _) (by rw [sizeS, List.length_map, hxb.out]) ?_
    intro W2 hl2
    refine hK _ _ (hCW.out.trans hl2.chg (fun _ _ h => h)) ?_
    clear hK K
    refine go_done (by kernel_rfl) ?_
    have hWW : Chg (fun k => k = g) W W2 := hCW.out.trans hl2.chg (fun _ _ h => h)
    refine ⟨keeps_chg hWW (fun k o hk ho e => ?_), hWW.mono (fun i _ hi => .inl hi), ?_, hC.out.trans hWW (fun i _ hi => .inl hi)⟩
    · subst e
      obtain ⟨more, hg2⟩ := (Hold.of_row hrow.out).out
      rw [hg2] at hk
      cases hk
      cases ho
    · rw [undoL_snoc, ← secCells_set _ _ _ (undoL_ok h.out.ok.seen pre) hxb.out (by rw [hul.out]; exact x.2.1)]
      exact hl2.row _ _ _ (hrow.out.chg (S := fun _ => False) ((Chg.refl _ _).drew) (fun _ _ h => h))
  case done =>
    rintro D' ys W hD rfl ⟨hrow, hC⟩ hK
    rw [pendW_length] at hrow
    have e := undo_all D.safe D.ws h.out.ok.w hP.out D.ws.length (Nat.le_refl _)
    rw [Nat.sub_self, List.take_zero, runW_nil] at e
    have hfin : Row W 93 64 (.slice (some ⟨g, 0, none⟩) D.safe.length c) D.safe.length (secCells D.safe) := by
      have h2 := hrow
      unfold Dev.seen at h2
      rw [e] at h2
      exact h2
    have hD2 : Chg (fun k => k = g ∨ w.heap.size ≤ k) w (W.putObj D' (.deferred none)) := by
      have h1 := hcw.out.mono (T := fun k => k = g ∨ w.heap.size ≤ k) (fun _ _ h => h.elim)
      have h2 := h1.trans hC (fun i _ hi => hi.imp id (fun h => by have := hz.out; omega))
      exact h2.trans (chg_put (B := w'.heap.size) (S := fun k => w'.heap.size ≤ k) (fun k hk => hk) W D' _ hD) (fun i _ hi => .inr (by have := hz.out; omega))
    have hR2 : Row (W.putObj D' (.deferred none)) 93 64 (.slice (some ⟨g, 0, none⟩) D.safe.length c) D.safe.length (secCells D.safe) :=
      hfin.chg (chg_put (B := w'.heap.size) (S := fun k => w'.heap.size ≤ k) (fun k hk => hk) W D' (.deferred none) hD) (fun k hk h2 => by have h3 := hz.out; have h4 := hgl1.out; simp [Value.ownBlock] at hk; omega)
    replace hD2 := Box.mk hD2
    replace hR2 := Box.mk hR2
    clear hrow hC hfin e
    gi_wp2
    refine ⟨by simp, .inl ⟨_, _, rfl, run_takeDeferred hK, ?_⟩⟩
    exact ⟨_, results_none rfl _ _ _, rfl, hR2.out, hD2.out⟩
  case stop =>
    rintro D' c' pre W _ _ h _
    exact h.elim
end Go.Proofs.YthpfpkikmaiddaaGreatDoor.Pk


/- Crash. -/
namespace Go.Proofs.YthpfpkikmaiddaaGreatDoor.Pk
open Go.RowKit

theorem spl_more {α : Type} (L : List α) (off : Nat) (a b : List α) (h : (L.drop (off + a.length)).take b.length = b) : spl L off (a ++ b) = spl L off a := by
  unfold spl
  rw [List.length_append, List.append_assoc]
  congr 2
  have := List.take_append_drop b.length (L.drop (off + a.length))
  rw [h, List.drop_drop] at this
  rw [← this, Nat.add_assoc]
theorem secCells_tear (s : List Sec) (n k : Nat) (t : Sec) (hs : okS s) (ht : t.length = 64) (hn : n < s.length) (hk : k ≤ 64) : spl (secCells s) (n * 64) ((t.take k).map yc) = secCells (s.set n (tear k t (s.getD n zeroS))) := by
  have ho := okS_getD hs n
  rw [← secCells_set s n _ hs (tear_length k t _ ht ho) hn, tear, List.map_append, spl_more]
  have hl : ((t.take k).map yc).length = k := by simp; omega
  have hg := secCells_get s n hs hn
  rw [hl, List.length_map, List.length_drop, ho, List.map_drop, ← hg, List.drop_take, List.drop_drop]
section
variable {P : Program} {w : World} {o : Oper} {a : Act} {Q : Exit → Act → World → Prop}
theorem wp_copyH {K : Act → World → Prop} (d s : Operand) (dT sT elem : TypeId) (ho : o.op = .call { callee := .builtin .copy, args := #[d, s], argTypes := #[dT, sT] })
    (hu : P.underlying dT = some (.slice elem)) (hs : (P.info? elem).map (·.size) = some 1) (g off dLen dCap g2 o2 sLen sCap : Nat) (e : TypeId) (L vs : List Value) (hd : a.eval d = .slice (some ⟨g, off, none⟩) dLen dCap) (hx : a.eval s = .slice (some ⟨g2, o2, none⟩) sLen sCap)
    (h : Hold w g e L) (hn : vs.length = Nat.min sLen dLen) (hsrc : w.rangeAt g2 o2 vs) (hfit : off + vs.length ≤ L.length) (h1 : ∀ v ∈ vs, v.oneCell' = true)
    (k : ∀ w', Laid w g e L off vs w' → K (a.put o.dst (goInt vs.length)) w') : o.wp P a w K Q := by
  obtain ⟨w', hr, hl⟩ := run_copyH (P := P) dT sT o.type elem hu hs g off dLen dCap g2 o2 sLen sCap e L vs h hn hsrc hfit h1
  unfold Oper.wp execOp
  simp only [ho, resolve, invoke, builtin, Sem.run_bind, Sem.run_pure, Result.andThen_ok, List.map_toArray, List.map_cons, List.map_nil, hd, hx, hr]
  exact k w' hl
end
theorem undo_any (bd : Nat) (F : Nat → Prop) (D : Dev) (w : World) (h : DAt w bd F D) (h0 : 0 < D.safe.length) (hws : D.ws.length ≤ 1000000)
    (g c : Nat) (pa : Option Addr) (pc : Nat) (hb : Blk w bd [.slice (some ⟨g, 0, none⟩) D.safe.length c, .slice pa D.ws.length pc, .int .i64 (D.taken : Int), .int .i64 (D.fall : Int), .bool D.off] 75)
    (hs : Row w 93 64 (.slice (some ⟨g, 0, none⟩) D.safe.length c) D.safe.length (secCells D.seen)) (hp : Row w 95 129 (.slice pa D.ws.length pc) D.ws.length (wrCells (pendW D.safe D.ws))) :
    Calls Tryz.prog 49 #[.pointer (some ⟨bd, 0, none⟩)] w fun e W' => e = .returned (.tuple #[]) ∧ Row W' 93 64 (.slice (some ⟨g, 0, none⟩) D.safe.length c) D.safe.length (secCells D.safe) ∧ Chg (fun k => k = g ∨ w.heap.size ≤ k) w W' :=
  callsIn_wide.1 (undo_in bd F D w h h0 hws g c pa pc hb hs hp)

theorem sizeF : (Tryz.prog.info? 26).map (·.size) = some 1 := by kernel_rfl
/-- Behind i writes laid again. -/
structure CrI (w : World) (g c bf : Nat) (v : Value) (keep : List Int) (D : Dev) (i : Nat) (wr : World) : Prop where
  row : Row wr 93 64 (.slice (some ⟨g, 0, none⟩) D.safe.length c) D.safe.length (secCells (settleN keep D.safe D.ws i))
  box : Blk wr bf [v] 26
  chg : Chg (fun k => k = g ∨ w.heap.size ≤ k) w wr
set_option maxHeartbeats 3200000 in
set_option maxRecDepth 100000 in
theorem crash_fit (bd : Nat) (F G : Nat → Prop) (D : Dev) (v : Value) (keep : List Int) (w : World) (h : DAt w bd F D) (hFG : ∀ k, F k → ¬ G k) (h0 : 0 < D.safe.length) (hws : D.ws.length ≤ 1000000) (hI : Ints w G v keep) (hkl : keep.length ≤ 9223372036854775807) :
    Calls Tryz.prog 15 #[.pointer (some ⟨bd, 0, none⟩), .agg #[v]] w fun e w' => e = .returned (.tuple #[]) ∧ DNext w bd F (D.crash keep) w' := by
  obtain ⟨iW, zW, hiW, hzW, hiW1, hiW2, hLW⟩ := info_cells infoW
  have hH := Box.mk (And.intro hiW (And.intro hzW (And.intro hiW1 (And.intro hiW2 hLW))))
  clear hiW hzW hiW1 hiW2 hLW
  obtain ⟨vs, vp, hb, hs, hp, hF1, hF2⟩ := h.out
  obtain ⟨g, c, rfl, hgl⟩ := hs.some h0
  obtain ⟨pa, pc, rfl⟩ := hp.shape
  obtain ⟨w1, hw1⟩ : ∃ w1, w.alloc (.cells #[v] 26) = w1 := ⟨_, rfl⟩
  have hnf := Blk.new w [v] 26
  rw [hw1] at hnf
  have hc1 : Chg (fun _ => False) w w1 := hw1 ▸ (Chg.refl _ _).alloc _
  have hz1 : w1.heap.size = w.heap.size + 1 := by rw [← hw1]; simp
  obtain ⟨bf, hbf⟩ : ∃ bf, w.heap.size = bf := ⟨_, rfl⟩
  rw [hbf] at hnf
  have hD1 := h.chg hc1 (fun _ _ h => h)
  have hb1 := hc1.blk hb (fun h => h)
  have hU := Box.mk (undo_any bd F D w1 hD1 h0 hws g c pa pc hb1 (hs.chg hc1 (fun _ _ h => h)) (hp.chg hc1 (fun _ _ h => h)))
  have hgb : g ≠ bd := by
    rintro rfl
    exact hs.apart hb (by decide) rfl
  have hgp : Box (∀ k, (Value.slice pa D.ws.length pc).ownBlock = some k → ¬ (k = g ∨ w.heap.size ≤ k)) := ⟨fun k hk hc => by
    have h1 := hp.lt k hk
    rcases hc with rfl | h2
    · exact hs.unlike hp (by decide) k rfl hk
    · omega⟩
  have hbg : Box (¬ (bd = g ∨ w.heap.size ≤ bd) ∧ g < bf ∧ w.heap.size = bf) := ⟨by have := hb.lt; omega⟩
  replace hb := Box.mk hb
  replace hs := Box.mk hs
  replace hp := Box.mk hp
  replace hF1 := Box.mk hF1
  replace hF2 := Box.mk hF2
  replace hnf := Box.mk hnf
  replace hc1 := Box.mk hc1
  replace h := Box.mk h
  have hGg : Box (¬ G g) := ⟨hFG g (hF1.out g rfl)⟩
  replace hI := Box.mk hI
  replace hkl := Box.mk hkl
  replace hz1 := Box.mk hz1
  clear hgl hD1 hb1 hgb
  go_enter Tryz.func15, Tryz.ntmps15
  go_wp2_with fail
  refine hU.out.mono ?_
  rintro e w2 ⟨rfl, hs2, hc2⟩
  have hc02 : Chg (fun k => k = g ∨ w.heap.size ≤ k) w w2 := (hc1.out.mono (T := fun k => k = g ∨ w.heap.size ≤ k) (fun _ _ h => h.elim)).trans hc2 (fun i _ hi => hi.imp id (fun h => by have := hz1.out; omega))
  have hbx2 := hc2.blk hnf.out (by have h1 := hbg.out; have h2 := hz1.out; omega)
  have hb2 := hc02.blk hb.out hbg.out.1
  have c1 : w2.cell? ⟨bd, 1, none⟩ = some (.slice pa D.ws.length pc) := hb2.cell 1
  have hI0 : Box (CrI w g c bf v keep D 0 w2) := ⟨⟨hs2, hbx2, hc02⟩⟩
  obtain ⟨M, hM⟩ : ∃ M, D.ws.length = M := ⟨_, rfl⟩
  rw [hM] at c1 hws
  replace hM := Box.mk hM
  clear hU hw1 hbf hs2 hc2 hc02 hbx2 hb2
  go_wp2_with fail
  clear c1
  go_loopw [15] (fun s15 wr => ∃ i : Nat, i ≤ M ∧ s15 = .int .i64 i ∧ Box (CrI w g c bf v keep D i wr)) (fun s15 _ => M - (intOf s15).toNat)
  case atStart => exact ⟨0, by omega, rfl, hI0⟩
  case round =>
    clear hI0
    obtain ⟨i, hi, rfl, hC⟩ := hrel
    have hbr := Box.mk (hC.out.chg.blk hb.out hbg.out.1)
    by_cases hlt : i < M
    · obtain ⟨b, c2, e2, hbl⟩ := hp.out.some (by have := hM.out; omega)
      cases e2
      have hpr := (hp.out.chg hC.out.chg (fun k hk => hgp.out k hk))
      have hoP := okP_pend D.safe D.ws _ h.out.ok.s h.out.ok.w
      have hil : i < D.ws.length := by have := hM.out; omega
      have hpl : i < (pendW D.safe D.ws).length := by rw [pendW_length]; exact hil
      have hx := (Hold.of_row hpr).range (i * 129) 129
      rw [wrCells_get _ _ hoP hpl] at hx
      have hq := hoP _ (List.getElem_mem hpl)
      have hqe : (pendW D.safe D.ws)[i] = ⟨(D.ws[i]).1, (runW D.safe (D.ws.take i)).getD (D.ws[i]).1 zeroS, (D.ws[i]).2⟩ := by
        have h1 := pendW_get D.safe D.ws i hil
        rw [List.getElem?_eq_getElem hpl] at h1
        exact Option.some.inj h1
      rw [hqe] at hx hq
      have hwi := h.out.ok.w _ (List.getElem_mem hil)
      have hlay : Box (settleN keep D.safe D.ws (i + 1) = lay1 keep i (settleN keep D.safe D.ws i) (D.ws[i])) := ⟨settleN_succ _ _ _ _ hil⟩
      unfold lay1 at hlay
      obtain ⟨at', hat⟩ : ∃ n, (D.ws[i]).1 = n := ⟨_, rfl⟩
      obtain ⟨aft, haft⟩ : ∃ n, (D.ws[i]).2 = n := ⟨_, rfl⟩
      rw [hat, haft] at hx hq hlay
      rw [hat, haft] at hwi
      obtain ⟨bef, hbef⟩ : ∃ n, (runW D.safe (D.ws.take i)).getD at' zeroS = n := ⟨_, rfl⟩
      rw [hbef] at hx hq
      have hwl : (Wr.cells ⟨at', bef, aft⟩).length = 129 := Wr.cells_length _ hq.1 hq.2
      have hIr := hI.out.chg hC.out.chg (fun k hk hG => by
        rintro (rfl | h2)
        · exact hGg.out hG
        · omega)
      have hKp := Box.mk (fun V (hV : Chg (fun k => k = g ∨ wr.heap.size ≤ k) wr V) => kept_any G v keep i V (hIr.chg hV (fun k hk hG => by
        rintro (rfl | h2)
        · exact hGg.out hG
        · omega)) hkl.out (by omega))
      have hrow := hC.out.row
      have hbox := Box.mk hC.out.box
      have hsl : Box ((secCells (settleN keep D.safe D.ws i)).length = D.safe.length * 64) := ⟨by rw [secCells_length _ (okS_settleN h.out.ok.s h.out.ok.w i), settleN_length]⟩
      have hso := Box.mk (okS_settleN (keep := keep) h.out.ok.s h.out.ok.w i)
      have hsn : Box (at' < (settleN keep D.safe D.ws i).length) := ⟨by rw [settleN_length]; exact hwi.1⟩
      have hkl2 := keepAt_le keep i
      obtain ⟨bx, hbx⟩ : ∃ bx, wr.heap.size = bx := ⟨_, rfl⟩
      have hlb : Box (bf < bx ∧ bd < bx ∧ g < bx) := ⟨by have h1 := hC.out.box.lt; have h2 := hbr.out.lt; have h3 := hrow.lt g rfl; omega⟩
      obtain ⟨N, hN⟩ : ∃ N, D.safe.length = N := ⟨_, rfl⟩
      have hatN : at' < N := by rw [← hN]; exact hwi.1
      rw [hbx] at hKp
      replace hx := Box.mk hx
      replace hq := Box.mk hq
      replace hbx := Box.mk hbx
      replace hwl := Box.mk hwl
      replace hrow := Box.mk hrow
      replace hN := Box.mk hN
      obtain ⟨kp, hkp⟩ : ∃ kp, keepAt keep i = kp := ⟨_, rfl⟩
      rw [hkp] at hkl2 hlay hKp
      clear hpr hoP hil hpl hqe hwi hat haft hbef hIr hkp hbl
      go_wp2_with (first
        | (refine wpList_load_mid (cs := Wr.cells ⟨at', bef, aft⟩) rfl 95 (.tmp 18) rfl b (i * 129) rfl _ hx.out Tryz.underlying95 rfl (by rw [sizeW, hwl.out]) ?_)
        | (refine wpList_allocL rfl 95 rfl iW zW zeroW hH.out.1 hH.out.2.1 hH.out.2.2.2.2 bx hbx.out ?_; intro w3 hb3 hc3 hz3; replace hb3 := Box.mk hb3; replace hc3 := Box.mk hc3; replace hz3 := Box.mk hz3)
        | (refine wpList_storeH rfl 95 (.tmp 5) (.tmp 19) rfl bx 0 95 zeroW (Wr.cells ⟨at', bef, aft⟩) rfl rfl (Hold.of_blk hb3.out) (by rw [hwl.out, zeroW_length]; omega) (Wr.cells_one _) (by rw [sizeW, hwl.out]) ?_; intro w4 hl4; replace hl4 := Box.mk hl4; have hb4 := Box.mk (hl4.out.blk hb3.out)))
      have e4 : Box (Blk w4 bx (Wr.cells ⟨at', bef, aft⟩) 95) := ⟨by
        have := hb4.out
        rw [spl_full _ _ (by rw [hwl.out, zeroW_length])] at this
        exact this⟩
      have hC4 : Box (Chg (fun k => k = bx) wr w4) := ⟨(hc3.out.mono (T := fun k => k = bx) (fun _ _ h => h.elim)).trans hl4.out.chg (fun _ _ h => h)⟩
      have hbox4 := Box.mk (hC4.out.blk hbox.out (by have := hlb.out; omega))
      have hbr4 := Box.mk (hC4.out.blk hbr.out (by have := hlb.out; omega))
      have hrow4 := Box.mk (hrow.out.chg hC4.out (fun k hk e => by have := hlb.out; simp [Value.ownBlock] at hk; omega))
      have hz4 : Box (bx < w4.heap.size) := ⟨e4.out.lt⟩
      clear hb3 hc3 hz3 hl4 hb4 hbox hrow hx
      have hCd : Box (Chg (fun k => k = g ∨ w4.heap.size ≤ k) w4 w4.drew) := ⟨(Chg.refl _ _).drew⟩
      refine region_go (C := fun V => Chg (fun k => k = g ∨ w4.heap.size ≤ k) w4 V) rfl ?_
      have hrd : Box (Row w4.drew 93 64 _ _ _) := ⟨hrow4.out⟩
      generalize w4.drew = wd at hCd hrd ⊢
      have hnx : Box (¬ (bf = g ∨ w4.heap.size ≤ bf) ∧ ¬ (bd = g ∨ w4.heap.size ≤ bd) ∧ ¬ (bx = g ∨ w4.heap.size ≤ bx)) := ⟨by
        have h1 := hlb.out
        have h2 := hz4.out
        have h3 := hbg.out
        omega⟩
      refine go_calms [0, 1, 2, 3, 4, 5, 6, 7, 8, 9, 10] 3 rfl (by kernel_rfl) (by kernel_rfl) (by kernel_rfl) hCd.out ?_
      simp [nth]
      repeat (go_big_quiet_step (first | exact fun _ => rfl | rfl))
      refine quiet_any rfl (.slice (some ⟨g, 0, none⟩) N c) (fun V hV => by
        have c9 : V.cell? ⟨bd, 0, none⟩ = some (.slice (some ⟨g, 0, none⟩) D.safe.length c) := (hV.blk hbr4.out hnx.out.2.1).cell 0
        rw [hN.out] at c9
        go_simp) ?_
      simp only [Act.put, List.setIfInBounds_toArray, List.set_cons_succ, List.set_cons_zero]
      repeat (go_big_quiet_step (first | exact fun _ => rfl | rfl))
      refine quiet_any rfl (.int .i64 (at' : Int)) (fun V hV => by
        have c9 : V.cell? ⟨bx, 0, none⟩ = some (.int .i64 (at' : Int)) := (hV.blk e4.out hnx.out.2.2).cell 0
        go_simp) ?_
      simp only [Act.put, List.setIfInBounds_toArray, List.set_cons_succ, List.set_cons_zero]
      repeat (go_big_quiet_step (first | exact fun _ => rfl | rfl))
      refine quiet_any rfl (.agg #[v]) (fun V hV => exec_load_mid _ 26 (.tmp 3) rfl bf 0 rfl [v] _ (range_all (hV.blk hbox4.out hnx.out.1)) Tryz.underlying26 rfl sizeF) ?_
      simp only [Act.put, List.setIfInBounds_toArray, List.set_cons_succ, List.set_cons_zero]
      repeat (go_big_quiet_step (first | exact fun _ => rfl | rfl))
      refine wpQuiet_nil ?_
      refine go_forced 11 (by kernel_rfl) (goOp_wp 11 rfl rfl (fun K hK => ?_))
      go_simp
      refine (hKp.out wd ?_).mono ?_
      · exact (hC4.out.mono (T := fun k => k = g ∨ bx ≤ k) (fun i _ hi => .inr (by omega))).trans hCd.out (fun i _ hi => hi.imp id (fun h => by have := hz4.out; omega))
      rintro e w5 ⟨rfl, hb5⟩
      have hC5 := Box.mk (hCd.out.trans (Chg.of_below hb5) (fun i _ hi => .inr (Nat.le_trans hCd.out.size hi)))
      have hr5 := Box.mk (hrd.out.kept fun k hk => hb5.block k (hrd.out.lt k hk))
      refine hK _ _ hC5.out ?_
      clear hK K hb5 hKp
      refine go_calms [12] 1 rfl (by kernel_rfl) (by kernel_rfl) (by kernel_rfl) hC5.out ?_
      simp [nth]
      have hkp0 : (0 : Int) ≤ (kp : Int) ∧ (kp : Int) ≤ 64 := by omega
      refine quiet_any rfl (.slice (some ⟨bx, 65, none⟩) kp 64) (fun V hV => by go_simp) ?_
      simp only [Act.put, List.setIfInBounds_toArray, List.set_cons_succ, List.set_cons_zero]
      refine wpQuiet_nil ?_
      have hsrc := (Hold.of_blk (hC5.out.blk e4.out hnx.out.2.2)).range 65 64
      rw [Wr.cells_aft _ hq.out.1 hq.out.2] at hsrc
      have hsrc2 : w5.rangeAt bx 65 ((aft.take kp).map yc) := fun j u hj => hsrc j u (by
        rw [List.map_take, List.getElem?_take] at hj
        split at hj
        · exact hj
        · cases hj)
      have htl : ((aft.take kp).map yc).length = kp := by rw [List.length_map, List.length_take, hq.out.2]; omega
      refine go_forced 13 (by kernel_rfl) (goOp_wp 13 rfl rfl (fun K hK => ?_))
      refine wp_copyH (.tmp 27) (.tmp 32) 23 23 5 rfl Tryz.underlying23 sizeB g (at' * 64) 64 64 bx 65 kp 64 93 _ ((aft.take kp).map yc) rfl rfl (Hold.of_row hr5.out) (by rw [htl]; exact (Nat.min_eq_left hkl2).symm) hsrc2 (by rw [htl, hsl.out]; have := hN.out; omega) (yc_one _) ?_
      intro w6 hl6
      have hC6 := hC5.out.trans hl6.chg (fun _ _ h => .inl h)
      refine hK _ _ hC6 ?_
      clear hK K
      refine go_done (by kernel_rfl) ?_
      have hR6 : Box (CrI w g c bf v keep D (i + 1) w6) := ⟨by
        refine ⟨?_, hC6.blk hbox4.out hnx.out.1, ?_⟩
        · rw [hlay.out, ← secCells_tear _ _ _ _ hso.out hq.out.2 hsn.out hkl2]
          exact hl6.row _ _ _ hr5.out
        · exact (hC.out.chg.trans (hC4.out.mono (T := fun k => k = g ∨ w.heap.size ≤ k) (fun j _ hj => .inr (by have := hC.out.chg.size; have := hbx.out; omega))) (fun _ _ h => h)).trans hC6 (fun j _ hj => hj.imp id (fun h => by have := hC.out.chg.size; have := hC4.out.size; omega))⟩
      clear hsrc hsrc2 hC6 hl6 hC5 hr5 hCd hrd htl
      go_wp2_with fail
      exact ⟨⟨i + 1, by omega, by go_num, hR6⟩, by simp [intOf]; omega⟩
    · have hiM : i = M := by omega
      subst hiM
      have c1 : wr.cell? ⟨bd, 1, none⟩ = some (.slice pa D.ws.length pc) := hbr.out.cell 1
      have c3 : wr.cell? ⟨bd, 3, none⟩ = some (.int .i64 (D.fall : Int)) := hbr.out.cell 3
      have c4 : wr.cell? ⟨bd, 4, none⟩ = some (.bool D.off) := hbr.out.cell 4
      have f1 := hbr.out.free 1
      have f3 := hbr.out.free 3
      have f4 := hbr.out.free 4
      have hfin : Box (DNext w bd F (D.crash keep) (((wr.setCell ⟨bd, 1, none⟩ (.slice none 0 0)).setCell ⟨bd, 3, none⟩ (.int .i64 0)).setCell ⟨bd, 4, none⟩ (.bool false))) := ⟨by
        have hbN := ((hbr.out.setCell 1 (.slice none 0 0)).setCell 3 (.int .i64 0)).setCell 4 (.bool false)
        have hc8 : Chg (fun k => k = bd) wr (((wr.setCell ⟨bd, 1, none⟩ (.slice none 0 0)).setCell ⟨bd, 3, none⟩ (.int .i64 0)).setCell ⟨bd, 4, none⟩ (.bool false)) := (chg2 _ _ _ _ _ _).trans (chg1 _ _ _ _) (fun _ _ h => h)
        have hset : settleN keep D.safe D.ws i = (D.crash keep).safe := by unfold Dev.crash settle; rw [hM.out]
        have hsw := hC.out.chg.size
        have hs8 := hc8.size
        refine ⟨⟨h.out.ok.crash keep, ⟨_, _, hbN, ?_, Row.nil _ _ _, fun k hk => .inl (hF1.out k (by simpa [Value.ownBlock] using hk)), fun k hk => by cases hk⟩, .inl h.out.fd, fun k hk => ?_⟩, ?_⟩
        · have := hC.out.row.chg hc8 (fun k hk e => by
            obtain rfl : g = k := by simpa [Value.ownBlock] using hk
            exact hbg.out.1 (.inl e.symm))
          rw [hset] at this
          rw [show (D.crash keep).seen = (D.crash keep).safe from rfl, show (D.crash keep).safe.length = D.safe.length by rw [← hset, settleN_length]]
          exact this
        · rcases hk with hk | hk
          · have := h.out.lt k hk; omega
          · exact hk.2
        · have h1 : Chg F w wr := ⟨hC.out.chg.os, hC.out.chg.tape, hC.out.chg.output, hsw, fun k hk hn => hC.out.chg.block k hk (by
            rintro (rfl | h2)
            · exact hn (hF1.out k rfl)
            · omega)⟩
          exact h1.trans hc8 (fun j _ hj => by rw [hj]; exact h.out.fd)⟩
      go_wp2_with fail
      go_returns
      exact ⟨rfl, hfin.out⟩
end Go.Proofs.YthpfpkikmaiddaaGreatDoor.Pk
