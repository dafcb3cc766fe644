/- Signatures in memory: a slice of them; a row of one's own. | Walks of note.badSig, of slices.IndexFunc and ContainsFunc over signatures, of note.goodText, goodNote. -/
import Derived.Laws.StructEq
import Derived.Test.YthkfefkcjcgfkaaGreatDoorWn2
set_option linter.all false
namespace Go.Proofs.YthkfefkcjcgfkaaGreatDoor.Nt
open Go Go.RowKit

/-- A slice of signatures. -/
structure SigsAt (w : World) (v : Value) (sg : List (ByteArray × ByteArray)) : Prop where
  ex : ∃ (a : Option Addr) (cap : Nat), v = .slice a sg.length cap ∧ (0 < sg.length → ∃ blk off, a = some ⟨blk, off, none⟩ ∧ blk < w.heap.size ∧ ∀ i, i < sg.length → w.cell? ⟨blk, off + i * 2, none⟩ = some (.string (sg.getD i default).1) ∧ w.cell? ⟨blk, off + i * 2 + 1, none⟩ = some (.string (sg.getD i default).2))
theorem SigsAt.here {w w' : World} {v : Value} {sg : List (ByteArray × ByteArray)} (h : SigsAt w v sg) (hb : Below w.heap.size w w') : SigsAt w' v sg := by
  obtain ⟨a, cap, rfl, hh⟩ := h.ex
  refine ⟨a, cap, rfl, fun h0 => ?_⟩
  obtain ⟨blk, off, e, hl, hc⟩ := hh h0
  exact ⟨blk, off, e, Nat.lt_of_lt_of_le hl hb.size, fun i hi => ⟨(hb.cell (p := ⟨blk, off + i * 2, none⟩) hl).trans (hc i hi).1, (hb.cell (p := ⟨blk, off + i * 2 + 1, none⟩) hl).trans (hc i hi).2⟩⟩
theorem SigsAt.at {w : World} {a : Option Addr} {n c : Nat} {sg : List (ByteArray × ByteArray)} (h : SigsAt w (.slice a n c) sg) (i : Nat) (hi : i < sg.length) : ∃ blk off, a = some ⟨blk, off, none⟩ ∧ w.cell? ⟨blk, off + i * 2, none⟩ = some (.string (sg.getD i default).1) ∧ w.cell? ⟨blk, off + i * 2 + 1, none⟩ = some (.string (sg.getD i default).2) := by
  obtain ⟨a2, c2, e, hh⟩ := h.ex
  cases e
  obtain ⟨blk, off, rfl, _, hc⟩ := hh (by omega)
  exact ⟨blk, off, rfl, (hc i hi).1, (hc i hi).2⟩
def sigC (x : ByteArray × ByteArray) : List Value := [.string x.1, .string x.2]
theorem row_here {w w' : World} {e : TypeId} {size n : Nat} {v : Value} {xs : List Value} (h : Pk.Row w e size v n xs) (hb : Below w.heap.size w w') : Pk.Row w' e size v n xs := h.kept fun k hk => hb.block k (h.lt k hk)
def sgC (sg : List (ByteArray × ByteArray)) : List Value := sg.flatMap sigC
theorem sgC_get : ∀ (sg : List (ByteArray × ByteArray)) (i : Nat), i < sg.length → (sgC sg)[i * 2]? = some (.string (sg.getD i default).1) ∧ (sgC sg)[i * 2 + 1]? = some (.string (sg.getD i default).2)
  | [], i, h => by simp at h
  | x :: sg, 0, _ => ⟨rfl, rfl⟩
  | x :: sg, i + 1, h => by
    have := sgC_get sg i (by simpa using h)
    have e : sgC (x :: sg) = .string x.1 :: .string x.2 :: sgC sg := rfl
    rw [e, show (i + 1) * 2 = i * 2 + 1 + 1 by omega]
    simpa using this
/-- A row of signatures of one's own. -/
structure SgRow (w0 w : World) (v : Value) (sg : List (ByteArray × ByteArray)) : Prop where
  row : Pk.Row w 71 2 v sg.length (sgC sg)
  own : ∀ k, v.ownBlock = some k → w0.heap.size ≤ k
  bel : Below w0.heap.size w0 w
theorem SgRow.sigs {w0 w : World} {v : Value} {sg : List (ByteArray × ByteArray)} (h : SgRow w0 w v sg) : SigsAt w v sg := by
  obtain ⟨a, c, rfl⟩ := h.row.shape
  refine ⟨a, c, rfl, fun h0 => ?_⟩
  obtain ⟨g, c2, e, hl⟩ := h.row.some h0
  cases e
  refine ⟨g, 0, rfl, hl, fun i hi => ?_⟩
  have h1 := sgC_get sg i hi
  rw [Nat.zero_add]
  exact ⟨h.row.cells _ _ h1.1, h.row.cells _ _ h1.2⟩
theorem SgRow.here {w0 w w' : World} {v : Value} {sg : List (ByteArray × ByteArray)} (h : SgRow w0 w v sg) (hb : Below w.heap.size w w') : SgRow w0 w' v sg := ⟨row_here h.row hb, h.own, mono_bel h.bel hb (Nat.le_refl _)⟩
theorem info_sig : (Tryz.prog.info? 71).map (fun i => (i.zero, i.size, i.bytes)) = some (some (.agg #[.string ByteArray.empty, .string ByteArray.empty]), 2, 32) := by kernel_rfl
theorem sgC_length (sg : List (ByteArray × ByteArray)) : (sgC sg).length = sg.length * 2 := by
  induction sg with
  | nil => rfl
  | cons x sg ih =>
    have e : sgC (x :: sg) = .string x.1 :: .string x.2 :: sgC sg := rfl
    rw [e]
    simp [ih]; omega
theorem sgC_append (a b : List (ByteArray × ByteArray)) : sgC (a ++ b) = sgC a ++ sgC b := by simp [sgC]
theorem SigsAt.cells {w : World} {blk off n c : Nat} {zs : List (ByteArray × ByteArray)} (h : SigsAt w (.slice (some ⟨blk, off, none⟩) n c) zs) (j : Nat) (u : Value) (hu : (sgC zs)[j]? = some u) : w.cell? ⟨blk, off + j, none⟩ = some u := by
  have hj : j < zs.length * 2 := by rw [← sgC_length]; exact (List.getElem?_eq_some_iff.1 hu).1
  obtain ⟨a, cc, e, hh⟩ := h.ex
  cases e
  obtain ⟨b2, o2, e2, _, hc⟩ := hh (by omega)
  cases e2
  have hi : j / 2 < zs.length := by omega
  have h1 := hc _ hi
  have h2 := sgC_get zs _ hi
  rcases Nat.mod_two_eq_zero_or_one j with h0 | h0
  · have hj2 : j / 2 * 2 = j := by omega
    rw [hj2] at h1 h2
    rw [h1.1, ← hu, h2.1]
  · have hj2 : j / 2 * 2 + 1 = j := by omega
    rw [Nat.add_assoc, hj2] at h1
    rw [hj2] at h2
    rw [h1.2, ← hu, h2.2]
theorem push_sigs (w : World) (ty : TypeId) (v : Value) (n : Nat) (xs : List Value) (h : Pk.Row w 71 2 v n xs) (a : Option Addr) (m c : Nat) (zs : List (ByteArray × ByteArray)) (hm : zs.length = m) (hz : SigsAt w (.slice a m c) zs) (hlen : (n + m) * 32 ≤ 140737488355328) :
    ∃ v' w', (Builtin.append_ #[27, 27] ty #[v, .slice a m c]).run Tryz.prog w = .ok v' w' ∧ Pk.PushedRow w 71 2 v (n + m) (xs ++ sgC zs) v' w' := by
  obtain ⟨i0, hi, hz0, hz1, hz2⟩ := info_parts info_sig
  subst hm
  obtain ⟨a2, c2, e2, hh⟩ := hz.ex
  cases e2
  by_cases h0 : 0 < zs.length
  · obtain ⟨blk, off, rfl, hb, hc⟩ := hh h0
    exact Pk.push_row (P := Tryz.prog) w 27 ty 71 i0 (.agg #[.string ByteArray.empty, .string ByteArray.empty]) 2 32 Tryz.underlying27 hi hz0 hz1 hz2 rfl (by decide) v n xs h ⟨blk, off, none⟩ zs.length c (sgC zs) (sgC_length zs)
      (fun j u hj => by
        have hadd : (⟨blk, off, none⟩ : Addr).add j = ⟨blk, off + j, none⟩ := by
          unfold Addr.add
          split
          · next h => subst h; rfl
          · rfl
        rw [hadd]
        exact hz.cells j u hj)
      (fun u hu => by
        simp only [sgC, List.mem_flatMap, sigC] at hu
        obtain ⟨y, _, hy⟩ := hu
        rcases List.mem_cons.1 hy with rfl | hy
        · rfl
        · rcases List.mem_cons.1 hy with rfl | hy
          · rfl
          · cases hy) (by unfold maxLen; omega) hlen
  · obtain rfl : zs = [] := List.length_eq_zero_iff.1 (by omega)
    obtain ⟨a3, c3, rfl⟩ := h.shape
    have hle : n ≤ c3 := by
      obtain ⟨_, ⟨h1, h2⟩ | ⟨g, cap, cur, h1, _, _, h3, _⟩⟩ := h
      · omega
      · cases h1; exact h3
    have hs : Src Tryz.prog i0.size 27 (.slice a 0 c) 0 [] w := by
      cases a with
      | none => exact Src.ofNil w Tryz.underlying27 c
      | some ad => exact Src.ofSlice w Tryz.underlying27 ad 0 c [] (by simp) (fun j u hu => by simp at hu) (fun u hu => by cases hu)
    have hr := run_append_nothing (P := Tryz.prog) w 27 27 ty 71 i0 Tryz.underlying27 hi a3 n c3 hle (.slice a 0 c) hs
    exact ⟨_, w, hr, ⟨by simpa [sgC] using h, Pk.Chg.refl _ _, fun k hk => .inl hk⟩⟩
section
variable {w : World} {o : Oper} {a : Act} {Q : Exit → Act → World → Prop}
theorem wp_pushG {K : Act → World → Prop} (s x : Operand) (ho : o.op = .call { callee := .builtin .append, args := #[s, x], argTypes := #[27, 27] }) (v : Value) (n : Nat) (xs : List Value) (hs : a.eval s = v)
    (h : Pk.Row w 71 2 v n xs) (ad : Option Addr) (m c : Nat) (zs : List (ByteArray × ByteArray)) (hx : a.eval x = .slice ad m c) (hm : zs.length = m) (hz : SigsAt w (.slice ad m c) zs) (hlen : (n + m) * 32 ≤ 140737488355328)
    (k : ∀ v' w', Pk.PushedRow w 71 2 v (n + m) (xs ++ sgC zs) v' w' → K (a.put o.dst v') w') : o.wp Tryz.prog a w K Q := by
  obtain ⟨v', w', hr, hp⟩ := push_sigs w o.type v n xs h ad m c zs hm hz hlen
  unfold Oper.wp execOp
  simp only [ho, resolve, invoke, builtin, Sem.run_bind, Sem.run_pure, Result.andThen_ok, List.map_toArray, List.map_cons, List.map_nil, hs, hx, hr]
  exact k _ _ hp
theorem wpList_pushG {ops : Array Oper} {rest : List Oper} (hgd : o.guard = none) (s x : Operand) (ho : o.op = .call { callee := .builtin .append, args := #[s, x], argTypes := #[27, 27] }) (v : Value) (n : Nat) (xs : List Value) (hs : a.eval s = v)
    (h : Pk.Row w 71 2 v n xs) (ad : Option Addr) (m c : Nat) (zs : List (ByteArray × ByteArray)) (hx : a.eval x = .slice ad m c) (hm : zs.length = m) (hz : SigsAt w (.slice ad m c) zs) (hlen : (n + m) * 32 ≤ 140737488355328)
    (k : ∀ v' w', Pk.PushedRow w 71 2 v (n + m) (xs ++ sgC zs) v' w' → wpList Tryz.prog ops Q rest (a.put o.dst v') w') : wpList Tryz.prog ops Q (o :: rest) a w :=
  wpList_plain hgd fun _ hK => wp_pushG s x ho v n xs hs h ad m c zs hx hm hz hlen fun v' w' hp => hK _ _ (k v' w' hp)
end
theorem SgRow.pushL {w0 w w2 : World} {v v' : Value} {sg zs : List (ByteArray × ByteArray)} {m : Nat} (h : SgRow w0 w v sg) (hm : zs.length = m) (hp : Pk.PushedRow w 71 2 v (sg.length + m) (sgC sg ++ sgC zs) v' w2) : SgRow w0 w2 v' (sg ++ zs) := by
  have hs := h.bel.size
  refine ⟨by rw [sgC_append, List.length_append, hm]; exact hp.row, fun k hk => ?_, h.bel.trans (hp.chg.below hs fun i hi => h.own i hi)⟩
  rcases hp.place k hk with h3 | h3
  · exact h.own k h3
  · omega
end Go.Proofs.YthkfefkcjcgfkaaGreatDoor.Nt

namespace Go.Proofs.YthkfefkcjcgfkaaGreatDoor.Nt
open Go Go.RowKit

/-- The place of the first that p takes; the length: there is none. -/
def fst {α : Type} (p : α → Bool) : List α → Nat
  | [] => 0
  | x :: r => if p x = true then 0 else fst p r + 1
theorem fst_le {α : Type} (p : α → Bool) : ∀ l, fst p l ≤ l.length
  | [] => Nat.le_refl _
  | x :: r => by rw [fst]; have := fst_le p r; split <;> simp <;> omega
theorem fst_at {α : Type} [Inhabited α] (p : α → Bool) : ∀ (l : List α) (i : Nat), i ≤ fst p l → ((i < l.length ∧ p (l.getD i default) = false) ↔ i < fst p l)
  | [], i, h => by simp [fst]
  | x :: l, i, h => by
    rw [fst] at h ⊢
    by_cases ha : p x = true
    · rw [if_pos ha] at h ⊢
      obtain rfl : i = 0 := by omega
      simp [ha]
    · rw [if_neg ha] at h ⊢
      cases i with
      | zero => simp [ha]
      | succ i =>
        have := fst_at p l i (by omega)
        simp only [List.length_cons, Nat.succ_lt_succ_iff, List.getD_cons_succ]
        exact this
theorem fst_any {α : Type} (p : α → Bool) : ∀ l : List α, l.any p = decide (fst p l < l.length)
  | [] => rfl
  | x :: l => by
    rw [List.any_cons, fst, fst_any p l]
    by_cases ha : p x = true
    · rw [if_pos ha, ha]; simp
    · rw [if_neg ha, Bool.eq_false_iff.2 ha, Bool.false_or]; simp
def idxI {α : Type} (p : α → Bool) (l : List α) : Int := if fst p l < l.length then (fst p l : Int) else -1
set_option maxHeartbeats 1600000 in
set_option maxRecDepth 100000 in
theorem badsig_any (x1 x2 : ByteArray) (w : World) (h2 : x2.size ≤ 140737488355328) :
    Calls Tryz.prog 56 #[.agg #[.string x1, .string x2]] w fun e w' => e = .returned (.bool (!gS (x1, x2))) ∧ Below w.heap.size w w' := by
  have hb := Box.mk (bel_alloc w (.cells #[.string x1, .string x2] 71))
  have hg : gS (x1, x2) = (decide (x1.size = 32) && decide (1 ≤ x2.size) && decide (x2.size ≤ 1024)) := rfl
  by_cases k1 : x1.size = 32
  · have d1 : ((x1.size : Int) != 32) = false := by rw [k1]; rfl
    by_cases k2 : 1 ≤ x2.size
    · by_cases k3 : x2.size ≤ 1024
      · have hv : Box ((!gS (x1, x2)) = false) := ⟨by rw [hg, decide_eq_true k1, decide_eq_true k2, decide_eq_true k3]; rfl⟩
        clear hg k1
        go_enter Tryz.func56, Tryz.ntmps56
        go_wp2_with fail
        go_ret
        exact ⟨ret_b (by rw [hv.out]; simp <;> omega), hb.out⟩
      · have hv : Box ((!gS (x1, x2)) = true) := ⟨by rw [hg, decide_eq_true k1, decide_eq_true k2, decide_eq_false k3]; rfl⟩
        clear hg k1
        go_enter Tryz.func56, Tryz.ntmps56
        go_wp2_with fail
        go_ret
        exact ⟨ret_b (by rw [hv.out]; simp <;> omega), hb.out⟩
    · have hv : Box ((!gS (x1, x2)) = true) := ⟨by rw [hg, decide_eq_true k1, decide_eq_false k2]; rfl⟩
      clear hg k1
      go_enter Tryz.func56, Tryz.ntmps56
      go_wp2_with fail
      go_ret
      exact ⟨ret_b hv.out, hb.out⟩
  · have hv : Box ((!gS (x1, x2)) = true) := ⟨by rw [hg, decide_eq_false k1]; rfl⟩
    have d1 : ((x1.size : Int) != 32) = true := by simpa using (by omega : (x1.size : Int) ≠ 32)
    clear hg k1
    go_enter Tryz.func56, Tryz.ntmps56
    go_wp2_with fail
    go_ret
    exact ⟨ret_b hv.out, hb.out⟩
set_option maxHeartbeats 3200000 in
set_option maxRecDepth 100000 in
theorem index_bad0 (P : ByteArray × ByteArray → Bool) (a : Option Addr) (n c : Nat) (sg : List (ByteArray × ByteArray)) (w : World) (hv : SigsAt w (.slice a n c) sg) (hn : sg.length = n) (hm : n ≤ 4611686018427387903)
    (hP : ∀ i, i < sg.length → ∀ W, Below w.heap.size w W → Calls Tryz.prog 56 #[.agg #[.string (sg.getD i default).1, .string (sg.getD i default).2]] W fun e w' => e = .returned (.bool (P (sg.getD i default))) ∧ Below W.heap.size W w') :
    Calls Tryz.prog 95 #[.slice a n c, .func (.func 56) #[] #[]] w fun e w' => e = .returned (.int .i64 (idxI P sg)) ∧ Below w.heap.size w w' := by
  have hle := fst_le P sg
  have hat := fst_at P sg
  have hix : idxI P sg = if fst P sg < sg.length then (fst P sg : Int) else -1 := rfl
  obtain ⟨X, hX⟩ : ∃ X, idxI P sg = X := ⟨_, rfl⟩
  rw [hX] at hix ⊢
  obtain ⟨k, hk⟩ : ∃ k, fst P sg = k := ⟨_, rfl⟩
  rw [hk] at hle hat hix
  rw [hn] at hle hat hix
  have hvB := Box.mk hv
  have hnB := Box.mk hn
  have hatB := Box.mk hat
  have hixB := Box.mk hix
  have hPB := Box.mk hP
  have hB0 : Box (Below w.heap.size w w) := ⟨Below.refl _ _⟩
  clear hv hn hP hX hk hat hix
  go_enter Tryz.func95, Tryz.ntmps95
  go_wp2_with fail
  go_loopw [8] (fun q wr => ∃ i : Nat, i ≤ k ∧ q = .int .i64 (i : Int) ∧ Box (Below w.heap.size w wr)) (fun q _ => n - (intOf q).toNat)
  case atStart => exact ⟨0, by omega, rfl, hB0⟩
  case round =>
    clear hB0
    obtain ⟨i, hi, rfl, hB⟩ := hrel
    by_cases hlt : i < n
    · have hig : i < sg.length := by rw [hnB.out]; exact hlt
      obtain ⟨b1, o1, rfl, k0, k1⟩ := (hvB.out.here hB.out).at i hig
      have hF := hPB.out i hig wr hB.out
      have hka := hatB.out i hi
      obtain ⟨x, hx⟩ : ∃ x, sg.getD i default = x := ⟨_, rfl⟩
      rw [hx] at k0 k1 hF hka
      obtain ⟨x1, x2⟩ := x
      simp only at k0 k1 hF
      obtain ⟨r, hr⟩ : ∃ r, P (x1, x2) = r := ⟨_, rfl⟩
      rw [hr] at hF hka
      have hii : (i : Int) < (n : Int) := by omega
      clear hx hig hr
      cases r with
      | true =>
        have hik : i = k := by
          rcases Nat.lt_or_ge i k with h | h
          · have := (hka.2 h).2; cases this
          · omega
        have hXe : X = (i : Int) := by rw [hixB.out, if_pos (by omega), hik]
        replace hXe := Box.mk hXe
        clear hka hik
        go_wp2_with fail
        refine hF.mono ?_
        clear hF
        rintro e w3 ⟨rfl, hb3⟩
        have hB3 := Box.mk (mono_bel hB.out hb3 (Nat.le_refl _))
        clear hb3 hB
        go_wp2_with fail
        go_ret
        exact ⟨ret_i hXe.out, hB3.out⟩
      | false =>
        have hik : i < k := hka.1 ⟨hlt, rfl⟩
        clear hka
        go_wp2_with fail
        refine hF.mono ?_
        clear hF
        rintro e w3 ⟨rfl, hb3⟩
        have hB3 := Box.mk (mono_bel hB.out hb3 (Nat.le_refl _))
        clear hb3 hB k0 k1
        go_wp2_with fail
        exact ⟨⟨i + 1, by omega, by go_num, hB3⟩, by simp [intOf]; omega⟩
    · have hXe : X = -1 := by rw [hixB.out, if_neg (by omega)]
      obtain rfl : i = n := by omega
      replace hXe := Box.mk hXe
      go_wp2_with fail
      go_ret
      exact ⟨ret_i hXe.out, hB.out⟩
theorem mem_getD {sg : List (ByteArray × ByteArray)} {i : Nat} (h : i < sg.length) : sg.getD i default ∈ sg := by
  rw [show sg.getD i default = sg[i] by simp [List.getD, h]]
  exact List.getElem_mem h
theorem index_bad (a : Option Addr) (n c : Nat) (sg : List (ByteArray × ByteArray)) (w : World) (hv : SigsAt w (.slice a n c) sg) (hn : sg.length = n) (hm : n ≤ 4611686018427387903) (hz : ∀ x ∈ sg, x.1.size ≤ 140737488355328 ∧ x.2.size ≤ 140737488355328) :
    Calls Tryz.prog 95 #[.slice a n c, .func (.func 56) #[] #[]] w fun e w' => e = .returned (.int .i64 (idxI (fun x => !gS x) sg)) ∧ Below w.heap.size w w' :=
  index_bad0 (fun x => !gS x) a n c sg w hv hn hm fun _ hi W _ => badsig_any _ _ W (hz _ (mem_getD hi)).2
theorem contains_bad (a : Option Addr) (n c : Nat) (sg : List (ByteArray × ByteArray)) (w : World) (hv : SigsAt w (.slice a n c) sg) (hn : sg.length = n) (hm : n ≤ 4611686018427387903) (hz : ∀ x ∈ sg, x.1.size ≤ 140737488355328 ∧ x.2.size ≤ 140737488355328) :
    Calls Tryz.prog 55 #[.slice a n c, .func (.func 56) #[] #[]] w fun e w' => e = .returned (.bool (!sg.all gS)) ∧ Below w.heap.size w w' := by
  have hF := index_bad a n c sg w hv hn hm hz
  have hr : (!sg.all gS) = decide (0 ≤ idxI (fun x => !gS x) sg) := by
    rw [show (!sg.all gS) = sg.any (fun x => !gS x) by rw [List.not_all_eq_any_not], fst_any]
    unfold idxI
    by_cases h : fst (fun x => !gS x) sg < sg.length
    · rw [if_pos h, decide_eq_true h, decide_eq_true]; omega
    · rw [if_neg h, decide_eq_false h]; rfl
  rw [hr]
  obtain ⟨X, hX⟩ : ∃ X, idxI (fun x => !gS x) sg = X := ⟨_, rfl⟩
  rw [hX] at hF ⊢
  clear hv hn hm hz hr hX
  go_enter Tryz.func55, Tryz.ntmps55
  go_wp2_with fail
  refine hF.mono ?_
  rintro e w2 ⟨rfl, hb2⟩
  replace hb2 := Box.mk hb2
  clear hF
  go_wp2_with fail
  go_ret
  exact ⟨rfl, hb2.out⟩
set_option maxHeartbeats 800000 in
set_option maxRecDepth 100000 in
theorem goodtext_any (t : ByteArray) (B : Nat) (w : World) (hL : NL B w) (hs : t.size ≤ 1073741824) :
    Calls Tryz.prog 54 #[.string t] w fun e w' => e = .returned (.bool (gT t.data.toList)) ∧ w = w' := by
  obtain ⟨k, hk⟩ := hL.m
  have hS := Tryz.strings_HasSuffix t ⟨#[10]⟩ w (by omega)
  have hP := Tryz.strings_HasPrefix t ⟨#[10]⟩ w
  have hC := Tryz.strings_Contains t ⟨#[10, 10]⟩ k w (by omega) hk
  have hg : gT t.data.toList = (Lib.hasSuffix t.data.toList nl && !Lib.hasPrefix t.data.toList nl && !Lib.contains t.data.toList nl2) := rfl
  rw [hg]
  rw [show (⟨#[10]⟩ : ByteArray).data.toList = nl from rfl] at hS hP
  rw [show (⟨#[10, 10]⟩ : ByteArray).data.toList = nl2 from rfl] at hC
  obtain ⟨x, hx⟩ : ∃ x, Lib.hasSuffix t.data.toList nl = x := ⟨_, rfl⟩
  obtain ⟨y, hy⟩ : ∃ x, Lib.hasPrefix t.data.toList nl = x := ⟨_, rfl⟩
  obtain ⟨z, hz⟩ : ∃ x, Lib.contains t.data.toList nl2 = x := ⟨_, rfl⟩
  rw [hx] at hS
  rw [hy] at hP
  rw [hz] at hC
  rw [hx, hy, hz]
  clear hg hx hy hz hk hL hs
  cases x with
  | false =>
    clear hP hC
    go_enter Tryz.func54, Tryz.ntmps54
    go_wp2_with fail
    refine hS.mono ?_
    clear hS
    rintro e w1 ⟨rfl, hw⟩
    obtain rfl : w = w1 := hw.symm
    go_wp2_with fail
    go_ret
    exact ⟨rfl, rfl⟩
  | true =>
    cases y with
    | true =>
      clear hC
      go_enter Tryz.func54, Tryz.ntmps54
      go_wp2_with fail
      refine hS.mono ?_
      clear hS
      rintro e w1 ⟨rfl, hw⟩
      obtain rfl : w = w1 := hw.symm
      go_wp2_with fail
      refine hP.mono ?_
      clear hP
      rintro e w1 ⟨rfl, hw⟩
      obtain rfl : w = w1 := hw.symm
      go_wp2_with fail
      go_ret
      exact ⟨rfl, rfl⟩
    | false =>
      go_enter Tryz.func54, Tryz.ntmps54
      go_wp2_with fail
      refine hS.mono ?_
      clear hS
      rintro e w1 ⟨rfl, hw⟩
      obtain rfl : w = w1 := hw.symm
      go_wp2_with fail
      refine hP.mono ?_
      clear hP
      rintro e w1 ⟨rfl, hw⟩
      obtain rfl : w = w1 := hw.symm
      go_wp2_with fail
      refine hC.mono ?_
      clear hC
      rintro e w1 ⟨rfl, hw⟩
      obtain rfl : w = w1 := hw.symm
      go_wp2_with fail
      go_ret
      exact ⟨by simp, rfl⟩
/-- Sizes of signatures. -/
def ZS (sg : List (ByteArray × ByteArray)) : Prop := ∀ x ∈ sg, x.1.size ≤ 1073741824 ∧ x.2.size ≤ 1073741824
set_option maxHeartbeats 1600000 in
set_option maxRecDepth 100000 in
theorem goodnote_any (t : ByteArray) (a : Option Addr) (n c : Nat) (sg : List (ByteArray × ByteArray)) (B : Nat) (w : World) (hL : NL B w) (hB : B ≤ w.heap.size) (hs : t.size ≤ 1073741824) (hv : SigsAt w (.slice a n c) sg) (hn : sg.length = n) (hm : n ≤ 1073741824) (hz : ZS sg) :
    Calls Tryz.prog 19 #[.agg #[.string t, .slice a n c]] w fun e w' => e = .returned (.bool (gN (t, sg))) ∧ Below w.heap.size w w' := by
  obtain ⟨W1, hW1⟩ : ∃ W1, w.alloc (.cells #[.string t, .slice a n c] 29) = W1 := ⟨_, rfl⟩
  have hB1 : Below w.heap.size w W1 := by rw [← hW1]; exact bel_alloc _ _
  have hS1 : Pk.Blk W1 w.heap.size [.string t, .slice a n c] 29 := by rw [← hW1]; exact Pk.Blk.new w _ _
  have s0 : W1.cell? ⟨w.heap.size, 0, none⟩ = some (.string t) := hS1.cell 0
  have s1 : W1.cell? ⟨w.heap.size, 1, none⟩ = some (.slice a n c) := hS1.cell 1
  have hT := goodtext_any t B W1 (hL.here hB hB1) hs
  have hC := contains_bad a n c sg W1 (hv.here hB1) hn (by omega) (fun x hx => ⟨by have := (hz x hx).1; omega, by have := (hz x hx).2; omega⟩)
  have hg : gN (t, sg) = (gT t.data.toList && decide (sg.length ≤ 16) && sg.all gS) := rfl
  rw [hg]
  obtain ⟨x, hx⟩ : ∃ x, gT t.data.toList = x := ⟨_, rfl⟩
  obtain ⟨y, hy⟩ : ∃ x, sg.all gS = x := ⟨_, rfl⟩
  rw [hx] at hT ⊢
  rw [hy] at hC ⊢
  rw [hn]
  replace hB1 := Box.mk hB1
  clear hg hx hy hL hB hs hv hn hz hS1
  cases x with
  | false =>
    clear hC
    go_enter Tryz.func19, Tryz.ntmps19
    go_wp2_with fail
    refine hT.mono ?_
    clear hT
    rintro e w1 ⟨rfl, rfl⟩
    go_wp2_with fail
    go_ret
    exact ⟨by simp, hB1.out⟩
  | true =>
    by_cases h16 : n ≤ 16
    · rw [decide_eq_true h16]
      go_enter Tryz.func19, Tryz.ntmps19
      go_wp2_with fail
      refine hT.mono ?_
      clear hT
      rintro e w1 ⟨rfl, rfl⟩
      go_wp2_with fail
      refine hC.mono ?_
      clear hC
      rintro e w2 ⟨rfl, hb2⟩
      have hB2 := Box.mk (mono_bel hB1.out hb2 (Nat.le_refl _))
      clear hb2 hB1
      go_wp2_with fail
      go_ret
      exact ⟨by simp, hB2.out⟩
    · rw [decide_eq_false h16]
      clear hC
      go_enter Tryz.func19, Tryz.ntmps19
      go_wp2_with fail
      refine hT.mono ?_
      clear hT
      rintro e w1 ⟨rfl, rfl⟩
      go_wp2_with fail
      go_ret
      exact ⟨by simp, hB1.out⟩
end Go.Proofs.YthkfefkcjcgfkaaGreatDoor.Nt
