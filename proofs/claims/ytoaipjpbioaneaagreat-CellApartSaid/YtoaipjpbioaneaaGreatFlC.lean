/- Walks of New, Read and Write. -/
import Derived.Test.YtoaipjpbioaneaaGreatFlB
import Derived.Great.BuildSlice
namespace Go.Proofs.YtoaipjpbioaneaaGreat
open Go.RowKit

/-- A type's row of the table, its zero value told by its cells. -/
theorem info_cells {P : Program} {e : TypeId} {L : List Value} {size bytes : Nat} (h : (P.info? e).map (fun i => (i.zero.map fun z => z.cells.toList, i.size, i.bytes)) = some (some L, size, bytes)) :
    ∃ i z, P.info? e = some i ∧ i.zero = some z ∧ i.size = size ∧ i.bytes = bytes ∧ z.cells = L.toArray := by
  obtain ⟨i, hi, hzz⟩ := Option.map_eq_some_iff.1 h
  simp only [Prod.mk.injEq, Option.map_eq_some_iff] at hzz
  obtain ⟨⟨z, hz, hL⟩, h1, h2⟩ := hzz
  exact ⟨i, z, hi, hz, h1, h2, by rw [← hL]⟩
def zeroW : List Value := .int .i64 0 :: List.replicate 128 (.int .u8 0)
theorem zeroW_length : zeroW.length = 129 := by simp [zeroW]
theorem infoS : (Tryz.prog.info? 81).map (fun i => (i.zero.map fun z => z.cells.toList, i.size, i.bytes)) = some (some (List.replicate 64 (.int .u8 0)), 64, 64) := by kernel_rfl
theorem infoW : (Tryz.prog.info? 83).map (fun i => (i.zero.map fun z => z.cells.toList, i.size, i.bytes)) = some (some zeroW, 129, 136) := by kernel_rfl
theorem sizeS : (Tryz.prog.info? 81).map (·.size) = some 64 := by kernel_rfl
theorem sizeW : (Tryz.prog.info? 83).map (·.size) = some 129 := by kernel_rfl
theorem sizeB : (Tryz.prog.info? 5).map (·.size) = some 1 := by kernel_rfl

theorem secCells_length : ∀ (s : List Sec), okS s → (secCells s).length = s.length * 64
  | [], _ => rfl
  | x :: s, h => by
    have ih := secCells_length s fun y hy => h y (by simp [hy])
    unfold secCells at ih ⊢
    rw [List.flatMap_cons, List.length_append, List.length_map, h x (by simp), ih, List.length_cons]; omega
theorem secCells_get : ∀ (s : List Sec) (n : Nat), okS s → n < s.length → ((secCells s).drop (n * 64)).take 64 = (s.getD n zeroS).map yc
  | x :: s, 0, h, _ => by
    have hx : (x.map yc).length = 64 := by rw [List.length_map, h x (by simp)]
    unfold secCells
    rw [List.flatMap_cons, Nat.zero_mul, List.drop_zero, List.take_append_of_le_length (by omega), List.take_of_length_le (by omega)]; rfl
  | x :: s, n + 1, h, hn => by
    have hx : (x.map yc).length = 64 := by rw [List.length_map, h x (by simp)]
    have ih := secCells_get s n (fun y hy => h y (by simp [hy])) (by simpa using hn)
    unfold secCells at ih ⊢
    rw [List.flatMap_cons, List.drop_append, List.drop_of_length_le (by omega), hx, show (n + 1) * 64 - 64 = n * 64 by omega, List.nil_append, ih]; rfl
theorem secCells_set : ∀ (s : List Sec) (n : Nat) (t : Sec), okS s → t.length = 64 → n < s.length → spl (secCells s) (n * 64) (t.map yc) = secCells (s.set n t)
  | x :: s, 0, t, h, ht, _ => by
    have hx : (x.map yc).length = 64 := by rw [List.length_map, h x (by simp)]
    unfold secCells spl
    rw [List.flatMap_cons, Nat.zero_mul, List.take_zero, List.nil_append, List.length_map, ht, Nat.zero_add, List.drop_append, List.drop_of_length_le (by omega), hx, List.nil_append, Nat.sub_self, List.drop_zero]; rfl
  | x :: s, n + 1, t, h, ht, hn => by
    have hx : (x.map yc).length = 64 := by rw [List.length_map, h x (by simp)]
    have ih := secCells_set s n t (fun y hy => h y (by simp [hy])) ht (by simpa using hn)
    unfold secCells spl at ih ⊢
    rw [List.set_cons_succ, List.flatMap_cons, List.flatMap_cons, ← ih, List.length_map, ht]
    rw [List.take_append, List.take_of_length_le (show (x.map yc).length ≤ (n + 1) * 64 by omega), hx, show (n + 1) * 64 - 64 = n * 64 by omega,
      List.drop_append, List.drop_of_length_le (show (x.map yc).length ≤ (n + 1) * 64 + 64 by omega), hx, show (n + 1) * 64 + 64 - 64 = n * 64 + 64 by omega, List.nil_append]
    simp [List.append_assoc]
theorem spl_full (L vs : List Value) (h : L.length = vs.length) : spl L 0 vs = vs := by
  simp [spl, h]
theorem cells_aft (n : Int) (bef : Sec) (t : List UInt8) (hb : bef.length = 64) (ht : t.length ≤ 64) : spl (Value.int .i64 n :: (bef.map yc ++ zeroS.map yc)) 65 (t.map yc) = Value.int .i64 n :: (bef.map yc ++ (padS t).map yc) := by
  have hb' : (bef.map yc).length = 64 := by rw [List.length_map, hb]
  unfold spl
  rw [List.length_map, List.take_succ_cons, List.take_append_of_le_length (by omega), List.take_of_length_le (by omega), show 65 + t.length = (64 + t.length) + 1 by omega, List.drop_succ_cons, List.drop_append, List.drop_of_length_le (by omega), hb', show 64 + t.length - 64 = t.length by omega]
  have e : (zeroS.map yc).drop t.length = (List.replicate (64 - t.length) 0).map yc := by
    rw [zeroS, List.map_replicate, List.map_replicate, List.drop_replicate]
  rw [e, padS]
  simp
theorem wrCells_snoc (l : List Wr) (x : Wr) : wrCells (l ++ [x]) = wrCells l ++ x.cells := by simp [wrCells]
theorem Wr.cells_length (x : Wr) (h1 : x.bef.length = 64) (h2 : x.aft.length = 64) : x.cells.length = 129 := by simp [Wr.cells, h1, h2]
theorem Wr.cells_aft (x : Wr) (h1 : x.bef.length = 64) (h2 : x.aft.length = 64) : (x.cells.drop 65).take 64 = x.aft.map yc := by
  unfold Wr.cells
  rw [List.drop_succ_cons, List.drop_append, List.drop_of_length_le (by simp [h1]), List.length_map, h1, Nat.sub_self, List.nil_append, List.drop_zero, List.take_of_length_le (by simp [h2])]
theorem Wr.cells_bef (x : Wr) (h1 : x.bef.length = 64) : (x.cells.drop 1).take 64 = x.bef.map yc := by
  unfold Wr.cells
  rw [List.drop_succ_cons, List.drop_zero, List.take_append_of_le_length (by simp [h1]), List.take_of_length_le (by simp [h1])]
theorem Wr.cells_one (x : Wr) : ∀ v ∈ x.cells, v.oneCell' = true := by
  intro v hv
  simp only [Wr.cells, List.mem_cons, List.mem_append] at hv
  rcases hv with rfl | hv | hv
  · rfl
  · exact yc_one _ v hv
  · exact yc_one _ v hv
/-- All writes have both sectors of 64 bytes. -/
def okP (l : List Wr) : Prop := ∀ x ∈ l, x.bef.length = 64 ∧ x.aft.length = 64
theorem okP_pend : ∀ (s : List Sec) (ws : List WrD) (n : Nat), okS s → okW n ws → okP (pendW s ws)
  | _, [], _, _, _ => fun _ h => by cases h
  | s, x :: ws, n, hs, hw => by
    have ih := okP_pend (s.set x.1 x.2) ws n (okS_set hs _ (okW_cons hw).1.2) (okW_cons hw).2
    intro y hy
    rcases List.mem_cons.1 hy with rfl | hy
    · exact ⟨okS_getD hs _, (okW_cons hw).1.2⟩
    · exact ih y hy
theorem wrCells_get : ∀ (l : List Wr) (i : Nat), okP l → (h : i < l.length) → ((wrCells l).drop (i * 129)).take 129 = (l[i]).cells
  | x :: l, 0, ho, _ => by
    have hx := Wr.cells_length x (ho x (by simp)).1 (ho x (by simp)).2
    unfold wrCells
    rw [List.flatMap_cons, Nat.zero_mul, List.drop_zero, List.take_append_of_le_length (by omega), List.take_of_length_le (by omega)]; rfl
  | x :: l, i + 1, ho, h => by
    have hx := Wr.cells_length x (ho x (by simp)).1 (ho x (by simp)).2
    have ih := wrCells_get l i (fun y hy => ho y (by simp [hy])) (by simpa using h)
    unfold wrCells at ih ⊢
    rw [List.flatMap_cons, List.drop_append, List.drop_of_length_le (by omega), hx, show (i + 1) * 129 - 129 = i * 129 by omega, List.nil_append, ih]; rfl
theorem wrCells_length : ∀ (l : List Wr), okP l → (wrCells l).length = l.length * 129
  | [], _ => rfl
  | x :: l, ho => by
    have hx := Wr.cells_length x (ho x (by simp)).1 (ho x (by simp)).2
    have ih := wrCells_length l fun y hy => ho y (by simp [hy])
    unfold wrCells at ih ⊢
    rw [List.flatMap_cons, List.length_append, hx, ih, List.length_cons]; omega
theorem made_rep (v : Value) (k n : Nat) (hk : 0 < k) : (madeCells (List.replicate k v).toArray n).toList = List.replicate n v := by
  apply List.ext_getElem?
  intro j
  by_cases hj : j < n
  · have hm : j % k < k := Nat.mod_lt _ hk
    simp [madeCells, hj, hm]
  · simp [madeCells, hj]
theorem secCells_new (n : Nat) : secCells (List.replicate n zeroS) = List.replicate (n * 64) (.int .u8 0) := by
  induction n with
  | zero => rfl
  | succ n ih =>
    unfold secCells at ih ⊢
    rw [List.replicate_succ, List.flatMap_cons, ih, show (n + 1) * 64 = 64 + n * 64 by omega, ← List.replicate_append_replicate]
    rfl

section
variable {P : Program} {w : World} {ops : Array Oper} {rest : List Oper} {o : Oper} {a : Act} {Q : Exit → Act → World → Prop}
/-- A new variable of a type of many cells. -/
theorem wpList_allocL (hgd : o.guard = none) (ty : TypeId) (ho : o.op = .alloc ty) (i : TypeInfo) (z : Value) (L : List Value) (hi : P.info? ty = some i) (hz : i.zero = some z) (hL : z.cells = L.toArray) (N : Nat) (hN : w.heap.size = N)
    (k : ∀ w', Blk w' N L ty → Chg (fun _ => False) w w' → w'.heap.size = N + 1 → wpList P ops Q rest (a.put o.dst (.pointer (some ⟨N, 0, none⟩))) w') : wpList P ops Q (o :: rest) a w := by
  subst hN
  refine wpList_plain hgd fun K hK => ?_
  unfold Oper.wp execOp
  simp [ho, Instr.alloc, zeroValue, typeInfo, hi, hz, newVar, newRow, hL]
  exact hK _ _ (k _ (Blk.new w L ty) ((Chg.refl _ _).alloc _) (by simp))
theorem wpList_buildC (hgd : o.guard = none) (t : TypeId) (parts : List (Nat × Operand)) (ho : o.op = .build t parts.toArray) (vals : List (Nat × Value)) (hv : parts.map (fun x => (x.1, a.eval x.2)) = vals) (L : List Value) (hb : P.built t vals = some L.toArray)
    (k : wpList P ops Q rest (a.put o.dst (.agg L.toArray)) w) : wpList P ops Q (o :: rest) a w := by
  have e : (parts.toArray.map fun (i, x) => (i, a.eval x)).toList = vals := by rw [Array.toList_map]; exact hv
  exact wpList_build hgd t parts.toArray ho (by rw [e, hb]; rfl) (by rw [e, hb]; exact k)
theorem range_all {w : World} {b : Nat} {cs : List Value} {t : TypeId} (h : Blk w b cs t) : w.rangeAt b 0 cs := by
  have := (Hold.of_blk h).range 0 cs.length
  simpa using this
theorem exec_load_mid (ρ : Operand → Value) (ty : TypeId) (x : Operand) (ho : o.op = .load ty x) (b off : Nat) (hx : ρ x = .pointer (some ⟨b, off, none⟩)) (cs : List Value) (d : TypeDesc) (hc : w.rangeAt b off cs)
    (hu : P.underlying ty = some d) (hd : d.isRow = true) (hi : (P.info? ty).map (·.size) = some cs.length) : (execOp ρ o).run P w = .ok (.value (.agg cs.toArray)) w := by
  unfold execOp
  simp only [ho, hx, Instr.loadAt, Instr.sureAddr, Sem.run_bind, Sem.run_pure, Result.andThen_ok, run_loadVar_mid w b off ty cs d hc hu hd hi]
theorem quiet_any {P : Program} {ops : Array Oper} {C : World → Prop} {Q : Act → Prop} {a : Act} {o : Oper} {rest : List Oper} (hw : Region.wanted o (yielded ops a.tmps) = true) (v : Value)
    (hv : ∀ w, C w → (execOp a.eval o).run P w = .ok (.value v) w) (h : wpQuiet P ops C Q rest (a.put o.dst v)) : wpQuiet P ops C Q (o :: rest) a := by
  unfold wpQuiet
  simp only [hw, if_true]
  refine ⟨v, fun w hC => ?_, h⟩
  unfold Oper.quietAt
  simp [hv w hC, Oper.quietUpon]
theorem foldl_spl (off : Nat) : ∀ (vs : List Value) (k : Nat) (cs : Array Value), off + k + vs.length ≤ cs.size →
    ((vs.zipIdx k).foldl (fun (cs : Array Value) (x : Value × Nat) => cs.setIfInBounds (off + x.2) x.1) cs).toList = spl cs.toList (off + k) vs
  | [], k, cs, _ => by simp [spl]
  | v :: vs, k, cs, h => by
    simp only [List.length_cons] at h
    rw [List.zipIdx_cons, List.foldl_cons, foldl_spl off vs (k + 1) _ (by simp; omega)]
    unfold spl
    rw [Array.toList_setIfInBounds, List.length_cons]
    have hcl : cs.toList.length = cs.size := Array.length_toList
    rw [List.drop_set_of_lt (by omega), show off + (k + 1) = off + k + 1 by omega, List.take_set, List.take_succ_eq_append_getElem (by omega), List.set_append_right _ _ (by simp; omega)]
    simp [Nat.min_eq_left (show off + k ≤ cs.size by omega)]
    congr 1; omega
/-- A struct built of parts, cell by cell. -/
theorem fill_cons (place : Nat → Option (Nat × Nat)) (cs vs : List Value) (j off size : Nat) (v : Value) (rest : List (Nat × Value)) (hv : v.cells = vs.toArray) (hp : place j = some (off, size)) (hs : vs.length = size) (hfit : off + size ≤ cs.length) :
    Instr.fill place cs.toArray ((j, v) :: rest) = Instr.fill place (spl cs off vs).toArray rest := by
  have e : (vs.toArray.zipIdx.foldl (fun (cs : Array Value) (x : Value × Nat) => cs.setIfInBounds (off + x.2) x.1) cs.toArray) = (spl cs off vs).toArray := by
    apply Array.ext'
    have := foldl_spl off vs 0 cs.toArray (by simp; omega)
    simpa using this
  rw [Instr.fill, hp]
  simp only [hv]
  rw [if_neg (by simp; omega)]
  rw [← e]
/-- A slice literal of one element of many cells. -/
theorem run_slice1 (t e : TypeId) (vs : List Value) (ie : TypeInfo) (z : Value) (hu : P.underlying t = some (.slice e)) (hie : P.info? e = some ie) (hz : ie.zero = some z) (hsz : ie.size = vs.length) (h0 : 0 < vs.length) (hbig : vs.length ≤ 16777216) :
    (Instr.buildSlice t 1 #[(0, .agg vs.toArray)]).run P w = .ok (.slice (some ⟨w.heap.size, 0, none⟩) 1 1) (w.alloc (.cells vs.toArray e)) := by
  refine run_buildSlice w t e 1 _ vs.toArray ie z hu hie hz (by omega) (by omega) ?_
  have hX : ∃ X : List Value, ((Array.range (1 * ie.size)).map (z.cells[· % z.cells.size]!)) = X.toArray ∧ X.length = vs.length := ⟨((Array.range (1 * ie.size)).map (z.cells[· % z.cells.size]!)).toList, (Array.toArray_toList).symm, by simp [hsz]⟩
  obtain ⟨X, hX1, hX2⟩ := hX
  rw [hX1]
  have := fill_cons (fun i => some (i * ie.size, ie.size)) X vs 0 0 ie.size (.agg vs.toArray) [] rfl (by simp) (by omega) (by omega)
  rw [spl_full _ _ hX2, Instr.fill] at this
  exact this
theorem wp_slice1 {K : Act → World → Prop} (t e : TypeId) (x : Operand) (ho : o.op = .buildSlice t 1 #[(0, x)]) (vs : List Value) (hx : a.eval x = .agg vs.toArray) (ie : TypeInfo) (z : Value) (hu : P.underlying t = some (.slice e)) (hie : P.info? e = some ie) (hz : ie.zero = some z) (hsz : ie.size = vs.length) (h0 : 0 < vs.length) (hbig : vs.length ≤ 16777216)
    (N : Nat) (hN : w.heap.size = N) (k : ∀ w', Blk w' N vs e → Chg (fun _ => False) w w' → w'.heap.size = N + 1 → K (a.put o.dst (.slice (some ⟨N, 0, none⟩) 1 1)) w') : o.wp P a w K Q := by
  subst hN
  have hr := run_slice1 (P := P) (w := w) t e vs ie z hu hie hz hsz h0 hbig
  unfold Oper.wp execOp
  simp only [ho, List.map_toArray, List.map_cons, List.map_nil, hx, Sem.run_bind, hr, Result.andThen_ok]
  exact k _ (Blk.new w vs e) ((Chg.refl _ _).alloc _) (by simp)
theorem built_w (n : Int) (bef : Sec) (h : bef.length = 64) :
    Tryz.prog.built 83 [(0, .int .i64 n), (1, .agg (bef.map yc).toArray)] = some (Value.int .i64 n :: (bef.map yc ++ zeroS.map yc)).toArray := by
  obtain ⟨i, z, hi, hz, _, _, hL⟩ := info_cells infoW
  have hu := Tryz.underlying83
  unfold Program.built
  simp only [hi, hu, hz]
  have hp : ∀ fs : Array Field, Tryz.prog.underlying 83 = some (.struct fs) → (fs.toList.mapM fun f => (Tryz.prog.info? f.type).map fun i => (f.offset, i.size)) = some [(0, 1), (1, 64), (65, 64)] := by
    intro fs hfs
    rw [hu] at hfs
    cases hfs
    kernel_rfl
  rw [hp _ hu]
  dsimp only
  rw [hL]
  rw [fill_cons _ zeroW [.int .i64 n] 0 0 1 (.int .i64 n) _ rfl rfl rfl (by rw [zeroW_length]; omega)]
  rw [fill_cons _ _ (bef.map yc) 1 1 64 _ _ rfl rfl (by rw [List.length_map, h]) (by rw [spl_length _ _ _ (by rw [zeroW_length]; simp), zeroW_length]; omega)]
  rw [Instr.fill]
  have e1 : spl zeroW 0 [.int .i64 n] = .int .i64 n :: List.replicate 128 (.int .u8 0) := rfl
  have e2 : zeroS.map yc = List.replicate 64 (.int .u8 0) := rfl
  rw [e1, e2]
  unfold spl
  rw [List.length_map, h]
  rfl
end
end Go.Proofs.YtoaipjpbioaneaaGreat
