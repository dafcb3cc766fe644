/- The program's map of names to texts, held against a content on lists; its operations. -/
import Derived.Test.YtoaipjpbioaneaaGreatCeM
import Derived.Test.YtoaipjpbioaneaaGreatRow
import Derived.Maps.OwnSet
import Derived.Maps.OwnOps
import Derived.Maps.Ext
import Derived.Sort.KeysCollected
namespace Go.Proofs.YtoaipjpbioaneaaGreat
open Go.RowKit Go.Maps
open Go.WideMaps (keyOf_string_mk)

theorem bytes_lt : ∀ a b : List UInt8, bytesBefore a b = decide (a < b)
  | [], [] => by simp [bytesBefore]
  | [], y :: s => by simp [bytesBefore]
  | x :: r, [] => by simp [bytesBefore]
  | x :: r, y :: s => by
    simp only [bytesBefore, bytes_lt r s, List.cons_lt_cons_iff]
    by_cases h1 : x < y
    · simp [h1]
    · by_cases h2 : x = y
      · subst h2; simp
      · simp [h1, h2]

/-- How an entry of the map reads. -/
def entS (cs : List Value) : Option (DataW Unit × List MemPlace) :=
  match cs with
  | [.string s] => if s.size ≤ maxLen then some (.lit (.string s.data.toList), []) else none
  | _ => none
def entR (v : Value) : Option (DataW Unit × List MemPlace) :=
  match v with
  | .agg cs => entS cs.toList
  | _ => none
theorem entR_mk {s : ByteArray} (h : s.size ≤ maxLen) : entR (.agg #[.string s]) = some (.lit (.string s.data.toList), []) := by
  show (if s.size ≤ maxLen then _ else none) = _
  rw [if_pos h]
theorem entR_inv {v : Value} {z : DataW Unit × List MemPlace} (h : entR v = some z) : ∃ s, v = .agg #[.string s] ∧ z = (.lit (.string s.data.toList), []) := by
  cases v <;> try (simp [entR] at h; done)
  rename_i cs
  have h1 : entS cs.toList = some z := h
  unfold entS at h1
  split at h1
  · next s hs =>
    split at h1
    · cases h1
      refine ⟨s, ?_, rfl⟩
      congr 1
      apply Array.ext'
      rw [hs]
    · cases h1
  · cases h1
def pairD (p : Bs × Bs) : Lit × DataW Unit := (.string p.1, .lit (.string p.2))
def contD (c : Ct) : DataW Unit := .map (c.map pairD)
theorem sameKey_str (a b : Bs) : (Lit.string a).sameKey (.string b) = decide (a = b) := by
  simp only [Lit.sameKey]
  by_cases h : a = b
  · simp [h]
  · simp [h]
theorem filter_str (c : Ct) (n : Bs) : (c.map pairD).filter (ChangeMaps.notKey (.string n)) = (dropC c n).map pairD := by
  induction c with
  | nil => rfl
  | cons p r ih =>
    rw [List.map_cons, List.filter_cons]
    have e : ChangeMaps.notKey (.string n) (pairD p) = decide (p.1 ≠ n) := by
      unfold ChangeMaps.notKey pairD
      rw [sameKey_str]; simp
    rw [e, ih]
    unfold dropC
    rw [List.filter_cons]
    split <;> simp
theorem insert_str {c : Ct} {n t : Bs} (h : c.Pairwise (fun p q => p.1 < q.1)) : DataW.insert (pairD (n, t)) ((dropC c n).map pairD) = (putC c n t).map pairD := by
  induction c with
  | nil => rfl
  | cons p r ih =>
    obtain ⟨h1, h2⟩ := List.pairwise_cons.1 h
    have hb : ∀ q : Bs × Bs, (pairD (n, t)).1.before (pairD q).1 = decide (n < q.1) := fun q => bytes_lt n q.1
    by_cases hlt : p.1 < n
    · have hne : p.1 ≠ n := fun e => lt_irrefl_bs n (by rw [e] at hlt; exact hlt)
      have hnl : ¬ n < p.1 := fun e => lt_irrefl_bs n (lt_trans_bs e hlt)
      have e1 : dropC (p :: r) n = p :: dropC r n := by unfold dropC; rw [List.filter_cons, if_pos (by simpa using hne)]
      rw [e1, List.map_cons, DataW.insert, hb p, if_neg (by simpa using hnl), ih h2, putC, if_pos hlt, List.map_cons]
    · have hr : ∀ q ∈ r, n < q.1 ∧ q.1 ≠ n := fun q hq => by
        have h3 := h1 q hq
        have h4 : n < q.1 := by
          by_cases e : p.1 = n
          · rw [← e]; exact h3
          · exact lt_trans_bs (lt_total_bs hlt e) h3
        exact ⟨h4, fun e => lt_irrefl_bs n (by rw [e] at h4; exact h4)⟩
      have e2 : dropC r n = r := List.filter_eq_self.2 fun q hq => by simpa using (hr q hq).2
      by_cases he : p.1 = n
      · have e1 : dropC (p :: r) n = r := by
          have : dropC (p :: r) n = dropC r n := by unfold dropC; rw [List.filter_cons, if_neg (by simpa using he)]
          rw [this, e2]
        rw [e1, putC, if_neg hlt, if_pos he, List.map_cons]
        cases r with
        | nil => rfl
        | cons q r' => rw [List.map_cons, DataW.insert, hb q, if_pos (by simpa using (hr q (by simp)).1)]
      · have e1 : dropC (p :: r) n = p :: r := by
          have : dropC (p :: r) n = p :: dropC r n := by unfold dropC; rw [List.filter_cons, if_pos (by simpa using he)]
          rw [this, e2]
        rw [e1, putC, if_neg hlt, if_neg he, List.map_cons, DataW.insert, hb p, if_pos (by simpa using lt_total_bs hlt he), List.map_cons, List.map_cons]
theorem contD_put {c : Ct} (n t : Bs) (h : c.Pairwise (fun p q => p.1 < q.1)) : (contD c).put (.string n) (.lit (.string t)) = contD (putC c n t) := by
  unfold contD
  rw [DataW.put_eq]
  unfold ChangeMaps.putKey
  rw [filter_str]
  exact congrArg DataW.map (insert_str (n := n) (t := t) h)
theorem contD_del (c : Ct) (n : Bs) : (contD c).del (.string n) = contD (dropC c n) := by
  unfold contD
  rw [DataW.del_eq]
  unfold ChangeMaps.delKey
  rw [filter_str]
theorem find_str (c : Ct) (n : Bs) : (c.map pairD).find? (fun p => p.1.sameKey (.string n)) = (c.find? fun p => decide (p.1 = n)).map pairD := by
  rw [List.find?_map]
  congr 1
  congr 1
  funext p
  exact sameKey_str p.1 n
theorem contD_at (c : Ct) (n : Bs) : (contD c).atKey (.string n) (.lit (.string [])) = .lit (.string ((getC c n).getD [])) := by
  unfold contD DataW.atKey getC
  simp only [find_str]
  cases c.find? fun p => decide (p.1 = n) <;> rfl
theorem contD_has (c : Ct) (n : Bs) : Maps.has (contD c) (.string n) = (getC c n).isSome := by
  unfold contD
  rw [Maps.has_eq]
  unfold getC
  rw [Option.isSome_map, Bool.eq_iff_iff, List.any_eq_true, List.find?_isSome]
  simp only [List.mem_map, decide_eq_true_eq]
  constructor
  · rintro ⟨x, ⟨p, hp, rfl⟩, hx⟩
    exact ⟨p, hp, by have := (sameKey_str p.1 n).symm.trans hx; simpa using this⟩
  · rintro ⟨p, hp, he⟩
    exact ⟨pairD p, ⟨p, hp, rfl⟩, (sameKey_str p.1 n).trans (by simpa using he)⟩
theorem contD_size (c : Ct) : Maps.size (contD c) = c.length := by simp [contD, Maps.size]
theorem contD_keys (c : Ct) : strKeys (contD c) = c.map Prod.fst := by
  show ((c.map pairD).map fun p => strOf p.1) = _
  rw [List.map_map]; rfl
theorem sorted_names {c : Ct} (h : c.Pairwise (fun p q => p.1 < q.1)) {ss : List (List UInt8)} (hp : ss.Perm (strKeys (contD c))) : ss.mergeSort (fun x y => decide (x ≤ y)) = c.map Prod.fst := by
  rw [contD_keys] at hp
  have e := mergeSort_of_perm hp
  have e2 : (c.map Prod.fst).mergeSort leB = c.map Prod.fst := List.mergeSort_of_pairwise (List.pairwise_map.2 (h.imp fun {p q} h1 => by
    simp only [leB, decide_eq_true_eq]; exact List.le_of_lt h1))
  exact e.trans e2

/-- Block b of w is the map of this content. -/
def MapAt (w : World) (b : Nat) (c : Ct) : Prop := w.ownsMap Tryz.prog 9 entR b c.length (contD c)
theorem MapAt.of {w : World} {b n : Nat} {c : Ct} (h : w.ownsMap Tryz.prog 9 entR b n (contD c)) : MapAt w b c := by
  obtain ⟨es, clock, hb, F, hs, hD⟩ := h
  refine ⟨es, clock, hb, F, ?_, hD⟩
  have e := congrArg Maps.size hD
  rw [contD_size] at e
  rw [e]; simp [Maps.size, length_sorted]
theorem MapAt.lt {w : World} {b : Nat} {c : Ct} (h : MapAt w b c) : b < w.heap.size := World.ownsMap.lt h
theorem MapAt.chg {S : Nat → Prop} {w w' : World} {b : Nat} {c : Ct} (h : MapAt w b c) (hc : Chg S w w') (hn : ¬ S b) : MapAt w' b c := by
  have hl := h.lt
  obtain ⟨es, clock, hb, r⟩ := h
  exact ⟨es, clock, (hc.block b hl hn).trans hb, r⟩
theorem MapAt.below {w w' : World} {b B : Nat} {c : Ct} (h : MapAt w b c) (hb : Below B w w') (hB : b < B) : MapAt w' b c := h.chg (Chg.of_below hb) (by omega)
theorem MapAt.new (w : World) : MapAt (w.alloc (.map #[] 0)) w.heap.size [] := World.ownsMap_made w Tryz.prog 9 entR
theorem chg_of_map {w w' : World} {b : Nat} (h : w.grownBy w' (some b)) : Chg (fun k => k = b) w w' := ⟨h.os, h.tape, h.output, h.size, fun k hk hn => h.block k hk fun e => hn (by cases e; rfl)⟩
theorem keyed : Keyed Tryz.prog 9 := string_keyed Tryz.underlying9
theorem ent_zero (w : World) : (zeroValue 79).run Tryz.prog w = .ok (.agg #[.string ByteArray.empty]) w := by kernel_rfl

section
variable {w : World} {ops : Array Oper} {rest : List Oper} {o : Oper} {a : Act} {Q : Exit → Act → World → Prop}
theorem ent_at {c : Ct} {n : Bs} {v : Value} {ps : List MemPlace} (h : entR v = some ((contD c).atKey (.string n) (.lit (.string [])), ps)) : v = .agg #[.string (btx ((getC c n).getD []))] := by
  obtain ⟨s, rfl, e⟩ := entR_inv h
  rw [contD_at] at e
  have e1 := congrArg Prod.fst e
  simp only [DataW.lit.injEq, Lit.string.injEq] at e1
  rw [e1]; rfl
/-- 'e, ok := c[name]'. -/
theorem wpList_look_ok (hg : o.guard = none) (m x : Operand) (hop : o.op = Op.lookup 65 m x true) (b : Nat) (c : Ct) (hm : a.eval m = .map (some b)) (hM : MapAt w b c) (s : ByteArray) (hx : a.eval x = .string s) (hs : s.size ≤ maxLen)
    (hK : wpList Tryz.prog ops Q rest (a.put o.dst (.tuple #[.agg #[.string (btx ((getC c s.data.toList).getD []))], .bool (getC c s.data.toList).isSome])) w) : wpList Tryz.prog ops Q (o :: rest) a w :=
  wpList_lookup_own_ok w hg m x 65 hop 9 79 keyed Tryz.underlying65 entR (ent_zero w) (.lit (.string [])) [] (entR_mk (by decide)) b c.length (contD c) hm hM (.string s) (.string s.data.toList) hx (keyOf_string_mk Tryz.underlying9 hs) (fun v ps hv => by
    rw [ent_at hv, contD_has]; exact hK)
/-- 'c[name]'. -/
theorem wpList_look (hg : o.guard = none) (m x : Operand) (hop : o.op = Op.lookup 65 m x false) (b : Nat) (c : Ct) (hm : a.eval m = .map (some b)) (hM : MapAt w b c) (s : ByteArray) (hx : a.eval x = .string s) (hs : s.size ≤ maxLen)
    (hK : wpList Tryz.prog ops Q rest (a.put o.dst (.agg #[.string (btx ((getC c s.data.toList).getD []))])) w) : wpList Tryz.prog ops Q (o :: rest) a w := by
  refine wpList_plain hg fun K' hK' => ?_
  obtain ⟨v, ps, hrun, hv⟩ := World.ownsMap.lookup hM keyed Tryz.underlying65 (ent_zero w) (zd := .lit (.string [])) (zp := []) (entR_mk (by decide)) (keyOf_string_mk Tryz.underlying9 hs)
  rw [ent_at hv] at hrun
  unfold Oper.wp
  simp [execOp, hop, hm, hx, hrun, Result.andThen]
  exact hK' _ _ hK
/-- 'c[name] = entry{text}'. -/
theorem wpList_store (hg : o.guard = none) (m x v : Operand) (hop : o.op = Op.mapUpdate 65 m x v) (b : Nat) (c : Ct) (hm : a.eval m = .map (some b)) (hM : MapAt w b c) (hc : c.Pairwise (fun p q => p.1 < q.1)) (hl : c.length < 1000000)
    (s t : ByteArray) (hx : a.eval x = .string s) (hv : a.eval v = .agg #[.string t]) (hs : s.size ≤ maxLen) (ht : t.size ≤ maxLen)
    (hK : ∀ w', MapAt w' b (putC c s.data.toList t.data.toList) → Chg (fun k => k = b) w w' → wpList Tryz.prog ops Q rest (a.put o.dst undef) w') : wpList Tryz.prog ops Q (o :: rest) a w :=
  wpList_mapUpdate_own w hg m x v 65 hop 9 79 keyed Tryz.underlying65 entR b c.length (contD c) hm hM (by unfold maxLen; omega) (.string s) (.agg #[.string t]) (.string s.data.toList) hx hv (keyOf_string_mk Tryz.underlying9 hs) (.lit (.string t.data.toList)) [] (entR_mk ht) (fun w' h1 h2 => by
    rw [contD_put _ _ hc] at h1
    exact hK w' (MapAt.of h1) (chg_of_map h2))
/-- 'delete(c, name)'. -/
theorem wpList_drop (hg : o.guard = none) (m x : Operand) (hop : o.op = Op.call { callee := Callee.builtin Builtin.delete, args := #[m, x], argTypes := #[65, 9] }) (b : Nat) (c : Ct) (hm : a.eval m = .map (some b)) (hM : MapAt w b c)
    (s : ByteArray) (hx : a.eval x = .string s) (hs : s.size ≤ maxLen)
    (hK : ∀ w', MapAt w' b (dropC c s.data.toList) → Chg (fun k => k = b) w w' → wpList Tryz.prog ops Q rest (a.put o.dst (.tuple #[])) w') : wpList Tryz.prog ops Q (o :: rest) a w :=
  wpList_delete_own w hg m x 65 9 hop 79 keyed Tryz.underlying65 entR b c.length (contD c) hm hM (.string s) (.string s.data.toList) hx (keyOf_string_mk Tryz.underlying9 hs) (fun w' h1 h2 => by
    rw [contD_del] at h1
    exact hK w' (MapAt.of h1) (chg_of_map h2.grown))
/-- 'len(c)'. -/
theorem wpList_mlen (hg : o.guard = none) (m : Operand) (hop : o.op = Op.call { callee := Callee.builtin Builtin.len, args := #[m], argTypes := #[65] }) (b : Nat) (c : Ct) (hm : a.eval m = .map (some b)) (hM : MapAt w b c)
    (hK : wpList Tryz.prog ops Q rest (a.put o.dst (.int .i64 (c.length : Int))) w) : wpList Tryz.prog ops Q (o :: rest) a w :=
  wpList_len_own w hg m 65 hop 9 79 Tryz.underlying65 entR b c.length (contD c) hm hM (by rw [contD_size]; exact hK)
end
end Go.Proofs.YtoaipjpbioaneaaGreat
