/- For QuorumGrows: few and many (on lists), a row that grows by signatures, the beginning of a []By, a set that always is. | QuorumGrows: the walk of the law. -/
import Derived.Test.YtkchaflijlmpgaaGreatDoorMQo
namespace Go.Proofs.YtkchaflijlmpgaaGreatDoor
open Go Go.RowKit

theorem few_many (ids : List ByteArray) (text : ByteArray) (sg all : List (ByteArray × ByteArray)) (h : ∀ x ∈ sg, x ∈ all) : whoL ids text sg = (whoL ids text all).filter fun id => sg.any (sgnB id text) := by
  unfold whoL
  rw [List.filter_filter]
  refine List.filter_congr fun id _ => ?_
  rcases hs : sg.any (sgnB id text) with _ | _
  · rfl
  · obtain ⟨x, hx, hp⟩ := List.any_eq_true.1 hs
    rw [List.any_eq_true.2 ⟨x, h x hx, hp⟩]
    rfl
theorem who_mem (ids : List ByteArray) (text : ByteArray) (l m : List (ByteArray × ByteArray)) (h : ∀ x, x ∈ l ↔ x ∈ m) : whoL ids text l = whoL ids text m := by
  unfold whoL
  refine List.filter_congr fun id _ => ?_
  rw [Bool.eq_iff_iff, List.any_eq_true, List.any_eq_true]
  exact ⟨fun ⟨x, a, b⟩ => ⟨x, (h x).1 a, b⟩, fun ⟨x, a, b⟩ => ⟨x, (h x).2 a, b⟩⟩
def cntP (p : ByteArray → Bool) (l : List ByteArray) (i : Nat) : Nat := ((l.take i).filter p).length
theorem cnt_parts (p : ByteArray → Bool) (l : List ByteArray) (i : Nat) (hi : i < l.length) : l.filter p = (l.take i).filter p ++ ((if p (l.getD i ByteArray.empty) then [l.getD i ByteArray.empty] else []) ++ (l.drop (i + 1)).filter p) := by
  have h1 : l = l.take i ++ (l.getD i ByteArray.empty :: l.drop (i + 1)) := by
    have : l.getD i ByteArray.empty = l[i] := by simp [List.getD, hi]
    rw [this, ← List.drop_eq_getElem_cons hi, List.take_append_drop]
  generalize l.getD i ByteArray.empty = x at *
  conv => lhs; rw [h1]
  rw [List.filter_append, List.filter_cons]
  split <;> simp
theorem cnt_yes (p : ByteArray → Bool) (l : List ByteArray) (i : Nat) (hi : i < l.length) (hp : p (l.getD i ByteArray.empty) = true) :
    cntP p l i < (l.filter p).length ∧ (l.filter p).getD (cntP p l i) ByteArray.empty = l.getD i ByteArray.empty ∧ cntP p l (i + 1) = cntP p l i + 1 := by
  have h := cnt_parts p l i hi
  rw [hp, if_pos rfl] at h
  have hs : cntP p l (i + 1) = cntP p l i + 1 := by
    unfold cntP
    rw [filter_take p l i hi, hp]
    simp
  refine ⟨by rw [h]; simp [cntP], ?_, hs⟩
  rw [h, cntP, List.getD, List.getElem?_append_right (Nat.le_refl _), Nat.sub_self]
  rfl
theorem cnt_no (p : ByteArray → Bool) (l : List ByteArray) (i : Nat) (hi : i < l.length) (hp : p (l.getD i ByteArray.empty) = false) :
    cntP p l (i + 1) = cntP p l i ∧ (cntP p l i < (l.filter p).length → (l.filter p).getD (cntP p l i) ByteArray.empty ≠ l.getD i ByteArray.empty) := by
  refine ⟨?_, fun hlt e => ?_⟩
  · unfold cntP
    rw [filter_take p l i hi, hp]
    simp
  · have hm : (l.filter p).getD (cntP p l i) ByteArray.empty ∈ l.filter p := by
      simp only [List.getD, List.getElem?_eq_getElem hlt, Option.getD_some]
      exact List.getElem_mem _
    rw [e] at hm
    rw [(List.mem_filter.1 hm).2] at hp
    cases hp
theorem cnt_le (p : ByteArray → Bool) (l : List ByteArray) (i : Nat) : cntP p l i ≤ (l.filter p).length := by
  unfold cntP
  exact ((List.take_sublist i l).filter p).length_le
theorem cnt_all (p : ByteArray → Bool) (l : List ByteArray) : cntP p l l.length = (l.filter p).length := by rw [cntP, List.take_length]
theorem sgC_length (sg : List (ByteArray × ByteArray)) : (sgC sg).length = sg.length * 2 := by
  induction sg with
  | nil => rfl
  | cons x sg ih =>
    have e : sgC (x :: sg) = .string x.1 :: .string x.2 :: sgC sg := rfl
    rw [e]
    simp [ih]; omega
theorem sgC_append (a b : List (ByteArray × ByteArray)) : sgC (a ++ b) = sgC a ++ sgC b := by simp [sgC]
theorem SigsAt.cells {w : World} {blk off n c : Nat} {zs : List (ByteArray × ByteArray)} (h : SigsAt w (.slice (some ⟨blk, off, none⟩) n c) zs) (j : Nat) (u : Value) (hu : (sgC zs)[j]? = some u) : w.cell? ⟨blk, off + j, none⟩ = some u := by
  have hj : j < zs.length * 2 := by rw [← sgC_length]; exact (List.getElem?_eq_some_iff.1 hu).1
  obtain ⟨a, cc, e, hh⟩ := h.ex
  cases e
  obtain ⟨b2, o2, e2, _, hc⟩ := hh (by omega)
  cases e2
  have hi : j / 2 < zs.length := by omega
  have h1 := hc _ hi
  have h2 := sgC_get zs _ hi
  rcases Nat.mod_two_eq_zero_or_one j with h0 | h0
  · have hj2 : j / 2 * 2 = j := by omega
    rw [hj2] at h1 h2
    rw [h1.1, ← hu, h2.1]
  · have hj2 : j / 2 * 2 + 1 = j := by omega
    rw [Nat.add_assoc, hj2] at h1
    rw [hj2] at h2
    rw [h1.2, ← hu, h2.2]
theorem push_sigs (w : World) (ty : TypeId) (v : Value) (n : Nat) (xs : List Value) (h : Pk.Row w 48 2 v n xs) (a : Option Addr) (m c : Nat) (zs : List (ByteArray × ByteArray)) (hm : zs.length = m) (hz : SigsAt w (.slice a m c) zs) (hlen : (n + m) * 32 ≤ 140737488355328) :
    ∃ v' w', (Builtin.append_ #[38, 38] ty #[v, .slice a m c]).run Tryz.prog w = .ok v' w' ∧ Pk.PushedRow w 48 2 v (n + m) (xs ++ sgC zs) v' w' := by
  obtain ⟨i0, hi, hz0, hz1, hz2⟩ := info_parts info_sig
  subst hm
  obtain ⟨a2, c2, e2, hh⟩ := hz.ex
  cases e2
  by_cases h0 : 0 < zs.length
  · obtain ⟨blk, off, rfl, hb, hc⟩ := hh h0
    exact Pk.push_row (P := Tryz.prog) w 38 ty 48 i0 (.agg #[.string ByteArray.empty, .string ByteArray.empty]) 2 32 Tryz.underlying38 hi hz0 hz1 hz2 rfl (by decide) v n xs h ⟨blk, off, none⟩ zs.length c (sgC zs) (sgC_length zs)
      (fun j u hj => by
        have hadd : (⟨blk, off, none⟩ : Addr).add j = ⟨blk, off + j, none⟩ := by
          unfold Addr.add
          split
          · next h => subst h; rfl
          · rfl
        rw [hadd]
        exact hz.cells j u hj)
      (fun u hu => by
        simp only [sgC, List.mem_flatMap, sigC] at hu
        obtain ⟨y, _, hy⟩ := hu
        rcases List.mem_cons.1 hy with rfl | hy
        · rfl
        · rcases List.mem_cons.1 hy with rfl | hy
          · rfl
          · cases hy) (by unfold maxLen; omega) hlen
  · obtain rfl : zs = [] := List.length_eq_zero_iff.1 (by omega)
    obtain ⟨a3, c3, rfl⟩ := h.shape
    have hle : n ≤ c3 := by
      obtain ⟨_, ⟨h1, h2⟩ | ⟨g, cap, cur, h1, _, _, h3, _⟩⟩ := h
      · omega
      · cases h1; exact h3
    have hs : Src Tryz.prog i0.size 38 (.slice a 0 c) 0 [] w := by
      cases a with
      | none => exact Src.ofNil w Tryz.underlying38 c
      | some ad => exact Src.ofSlice w Tryz.underlying38 ad 0 c [] (by simp) (fun j u hu => by simp at hu) (fun u hu => by cases hu)
    have hr := run_append_nothing (P := Tryz.prog) w 38 38 ty 48 i0 Tryz.underlying38 hi a3 n c3 hle (.slice a 0 c) hs
    exact ⟨_, w, hr, ⟨by simpa [sgC] using h, Pk.Chg.refl _ _, fun k hk => .inl hk⟩⟩
section
variable {w : World} {o : Oper} {a : Act} {Q : Exit → Act → World → Prop}
theorem wp_pushG {K : Act → World → Prop} (s x : Operand) (ho : o.op = .call { callee := .builtin .append, args := #[s, x], argTypes := #[38, 38] }) (v : Value) (n : Nat) (xs : List Value) (hs : a.eval s = v)
    (h : Pk.Row w 48 2 v n xs) (ad : Option Addr) (m c : Nat) (zs : List (ByteArray × ByteArray)) (hx : a.eval x = .slice ad m c) (hm : zs.length = m) (hz : SigsAt w (.slice ad m c) zs) (hlen : (n + m) * 32 ≤ 140737488355328)
    (k : ∀ v' w', Pk.PushedRow w 48 2 v (n + m) (xs ++ sgC zs) v' w' → K (a.put o.dst v') w') : o.wp Tryz.prog a w K Q := by
  obtain ⟨v', w', hr, hp⟩ := push_sigs w o.type v n xs h ad m c zs hm hz hlen
  unfold Oper.wp execOp
  simp only [ho, resolve, invoke, builtin, Sem.run_bind, Sem.run_pure, Result.andThen_ok, List.map_toArray, List.map_cons, List.map_nil, hs, hx, hr]
  exact k _ _ hp
theorem wpList_pushG {ops : Array Oper} {rest : List Oper} (hgd : o.guard = none) (s x : Operand) (ho : o.op = .call { callee := .builtin .append, args := #[s, x], argTypes := #[38, 38] }) (v : Value) (n : Nat) (xs : List Value) (hs : a.eval s = v)
    (h : Pk.Row w 48 2 v n xs) (ad : Option Addr) (m c : Nat) (zs : List (ByteArray × ByteArray)) (hx : a.eval x = .slice ad m c) (hm : zs.length = m) (hz : SigsAt w (.slice ad m c) zs) (hlen : (n + m) * 32 ≤ 140737488355328)
    (k : ∀ v' w', Pk.PushedRow w 48 2 v (n + m) (xs ++ sgC zs) v' w' → wpList Tryz.prog ops Q rest (a.put o.dst v') w') : wpList Tryz.prog ops Q (o :: rest) a w :=
  wpList_plain hgd fun _ hK => wp_pushG s x ho v n xs hs h ad m c zs hx hm hz hlen fun v' w' hp => hK _ _ (k v' w' hp)
end
theorem SgRow.pushL {w0 w w2 : World} {v v' : Value} {sg zs : List (ByteArray × ByteArray)} {m : Nat} (h : SgRow w0 w v sg) (hm : zs.length = m) (hp : Pk.PushedRow w 48 2 v (sg.length + m) (sgC sg ++ sgC zs) v' w2) : SgRow w0 w2 v' (sg ++ zs) := by
  have hs := h.bel.size
  refine ⟨by rw [sgC_append, List.length_append, hm]; exact hp.row, fun k hk => ?_, h.bel.trans (hp.chg.below hs fun i hi => h.own i hi)⟩
  rcases hp.place k hk with h3 | h3
  · exact h.own k h3
  · omega
theorem BysAt.first {w : World} {ua : Option Addr} {L cap : Nat} {bs : List ByR} (h : BysAt w (.slice ua L cap) bs) (M : Nat) (hM : M ≤ L) : BysAt w (.slice ua M cap) (bs.take M) := by
  obtain ⟨a, c, e, h1, h2, h3, hh⟩ := h.ex
  cases e
  have hl : (bs.take M).length = M := by rw [List.length_take]; omega
  refine ⟨⟨ua, cap, by rw [hl], by omega, h2, h3, fun h0 => ?_⟩, fun r hr => h.ok r (List.mem_of_mem_take hr)⟩
  rw [hl] at h0 ⊢
  obtain ⟨blk, off, e2, hlt, hc⟩ := hh (by omega)
  refine ⟨blk, off, e2, hlt, fun i hi j u hu => hc i (by omega) j u ?_⟩
  rw [← hu]
  simp [List.getD, hi]
theorem or_one (n : Nat) (hn : n < 256) : ∃ m : Nat, m < 256 ∧ m % 2 = 1 ∧ bits .or .u8 (n : Int) 1 = (m : Int) := by
  have h : ∀ i : Fin 256, bits .or .u8 ((i.val : Nat) : Int) 1 = (((i.val ||| 1) : Nat) : Int) ∧ (i.val ||| 1) < 256 ∧ (i.val ||| 1) % 2 = 1 := by decide +kernel
  exact ⟨_, (h ⟨n, hn⟩).2.1, (h ⟨n, hn⟩).2.2, (h ⟨n, hn⟩).1⟩
theorem setI_size (n : Nat) : ∀ k, ∀ x ∈ setI n k, x.size = 32
  | 0, x, h => by cases h
  | k + 1, x, h => by
    rw [setI, List.mem_append] at h
    rcases h with h | h
    · exact setI_size n k x h
    · split at h
      · have : x = keyID (sd k) 1 := by simpa using h
        rw [this]; exact key_size k
      · cases h
theorem setI_first (n : Nat) (hn : n % 2 = 1) : ∀ k, keyID (sd 0) 1 ∈ setI n (k + 1)
  | 0 => by
    have : bitOn n 0 = true := by simp [bitOn, hn]
    rw [setI, this]
    simp
  | k + 1 => by
    rw [setI, List.mem_append]
    exact .inl (setI_first n hn k)
theorem set_good (n : Nat) (hn : n % 2 = 1) : chkB (ris (setI n 5)) 1 = true := by
  have h1 := ris_length (setI n 5)
  have h2 := setI_length n 5
  have h3 : keyID (sd 0) 1 ∈ ris (setI n 5) := ((ris_props _).2 _).2 (setI_first n hn 4)
  have h4 := List.length_pos_of_mem h3
  exact chk_ris _ 1 (setI_size n 5) (by decide) (by omega) (by omega)
end Go.Proofs.YtkchaflijlmpgaaGreatDoor

namespace Go.Proofs.YtkchaflijlmpgaaGreatDoor
open Go Go.RowKit

theorem SgRow.st (W : World) (v : Value) (sg : List (ByteArray × ByteArray)) : St (PC W) (fun w w' => Below w.heap.size w w') (fun w' => SgRow W w' v sg) := ⟨fun _ h => h.bel, fun _ _ h hb => h.here hb⟩
def SgL (W : World) (v : Value) (sg : List (ByteArray × ByteArray)) (bq : Nat) (xs : List (ByteArray × ByteArray)) : World → Prop := fun w => SgRow W w v sg ∧ Blk w bq (sgC xs) 48
theorem SgL.st (W : World) (v : Value) (sg : List (ByteArray × ByteArray)) (bq : Nat) (xs : List (ByteArray × ByteArray)) : St (PC W) (fun w w' => Below w.heap.size w w') (SgL W v sg bq xs) := ⟨fun _ h => h.1.bel, fun _ _ h hb => ⟨h.1.here hb, h.2.below hb h.2.lt⟩⟩
theorem getD_mem {α : Type} [Inhabited α] (l : List α) (i : Nat) (h : i < l.length) : l.getD i default ∈ l := by simp [List.getD, h]
/-- What stands in back. -/
def BkIs (al bk : List (ByteArray × ByteArray)) (i : Nat) : Prop := (∀ x ∈ bk, x ∈ al) ∧ ∀ j, j < i → al.getD j default ∈ bk
theorem BkIs.next {al bk : List (ByteArray × ByteArray)} {i k : Nat} (h : BkIs al bk i) (hi : i < al.length) (hk : k < al.length) : BkIs al (bk ++ [al.getD k default, al.getD i default]) (i + 1) := by
  refine ⟨fun x hx => ?_, fun j hj => ?_⟩
  · rcases List.mem_append.1 hx with hx | hx
    · exact h.1 x hx
    · rcases List.mem_cons.1 hx with rfl | hx
      · exact getD_mem _ _ hk
      · rcases List.mem_cons.1 hx with rfl | hx
        · exact getD_mem _ _ hi
        · cases hx
  · by_cases e : j = i
    · subst e; simp
    · exact List.mem_append_left _ (h.2 j (by omega))
theorem BkIs.all {al bk : List (ByteArray × ByteArray)} (h : BkIs al bk al.length) (x : ByteArray × ByteArray) : x ∈ bk ↔ x ∈ al := by
  refine ⟨h.1 x, fun hx => ?_⟩
  obtain ⟨i, hi, rfl⟩ := List.getElem_of_mem hx
  have := h.2 i hi
  simpa [List.getD, hi] using this
theorem TxR.at {B n c : Nat} {w : World} {a : Option Addr} {R : List ByteArray} (h : TxR B w (.slice a n c) R) (i : Nat) (hi : i < R.length) : ∃ g, a = some ⟨g, 0, none⟩ ∧ n ≤ c ∧ c ≤ maxLen ∧ w.cell? ⟨g, i, none⟩ = some (.string (R.getD i ByteArray.empty)) := by
  have h1 : Pk.Row w 9 1 (.slice a n c) R.length (R.map Value.string) := TxR.base h (Nat.zero_le _)
  obtain ⟨hx, ⟨_, h00⟩ | ⟨g, cap, cur, e, b1, hg, b2, b3, b4, b5⟩⟩ := h
  · omega
  · cases e
    exact ⟨g, rfl, b2, b3, h1.cells i _ (by simp [List.getD, hi])⟩
/-- Rows of texts, below W. -/
def QT (W : World) (l : List (Value × List ByteArray)) : World → Prop := fun w => Below W.heap.size W w ∧ ∀ p ∈ l, TxR W.heap.size w p.1 p.2
theorem QT.here {W w w' : World} {l : List (Value × List ByteArray)} (h : QT W l w) (hb : Below w.heap.size w w') : QT W l w' := ⟨mono_bel h.1 hb (Nat.le_refl _), fun p hp => (h.2 p hp).here hb⟩
theorem QT.st (W : World) (l : List (Value × List ByteArray)) : St (PC W) (fun w w' => Below w.heap.size w w') (QT W l) := ⟨fun _ h => h.1, fun _ _ h hb => h.here hb⟩
theorem QT.add {W w w' : World} {l : List (Value × List ByteArray)} {v : Value} {R : List ByteArray} (h : QT W l w) (hb : Below w.heap.size w w') (hT : TxR w.heap.size w' v R) : QT W ((v, R) :: l) w' := by
  refine ⟨mono_bel h.1 hb (Nat.le_refl _), fun p hp => ?_⟩
  rcases List.mem_cons.1 hp with rfl | hp
  · exact hT.base h.1.size
  · exact (h.2 p hp).here hb
theorem whoE_good (ids : List ByteArray) (text : ByteArray) (sg : List (ByteArray × ByteArray)) (h : chkB ids 1 = true) : whoE ids 1 text sg = whoL ids text sg := by rw [whoE, h, if_pos rfl]
set_option maxHeartbeats 12800000 in
set_option maxRecDepth 100000 in
theorem law_grows (u1 u2 : Value) (bs1 bs2 : List ByR) (n : Nat) (w : World) (hK : KIs w) (hn : n < 256) (hu1 : BysAt w u1 bs1) (hu2 : BysAt w u2 bs2) :
    Calls Tryz.prog 5 #[.int .u8 (n : Int), u1, u2] w fun e w' => e = .returned (.bool true) ∧ Below w.heap.size w w' := by
  have hC := counts_any w hK
  have hKB := Box.mk hK
  obtain ⟨L1, hL1⟩ : ∃ L, bs1.length = L := ⟨_, rfl⟩
  obtain ⟨L2, hL2⟩ : ∃ L, bs2.length = L := ⟨_, rfl⟩
  have hu1B := Box.mk hu1
  have hu2B := Box.mk hu2
  obtain ⟨a1, cap1, rfl, hc1, hm1, hn1, hh1⟩ := hu1.ex
  obtain ⟨a2, cap2, rfl, hc2, hm2, hn2, _⟩ := hu2.ex
  have hok := Box.mk hu1.ok
  rw [hL1] at hu1B hc1 hh1 ⊢
  rw [hL2] at hu2B hc2 ⊢
  obtain ⟨n7, hn7, hodd, hor⟩ := or_one n hn
  have hgood := set_good n7 hodd
  unfold maxLen at hm1 hm2
  replace hh1 := Box.mk hh1
  replace hL1 := Box.mk hL1
  replace hL2 := Box.mk hL2
  replace hgood := Box.mk hgood
  clear hK hu1 hu2 hodd
  go_enter Tryz.func5, Tryz.ntmps5
  go_wp2_with fail
  refine hC.mono ?_
  clear hC
  rintro e w2 ⟨rfl, hb2⟩
  have hF := ring_any w2
  have hB2 := Box.mk hb2
  clear hb2
  go_wp2_with fail
  refine hF.mono ?_
  clear hF
  rintro e w3 ⟨v7, rfl, h3⟩
  have hB3 := Box.mk (mono_bel hB2.out h3.bel (Nat.le_refl _))
  have h3B := Box.mk h3
  have hF := set_any v7 n7 1 w2 w3 h3 hn7
  obtain ⟨kb0, hr0, _⟩ := h3.ex
  obtain ⟨a7, c7, rfl⟩ := hr0.shape
  clear hB2 h3 hr0
  go_wp2_with fail
  refine hF.mono ?_
  clear hF
  rintro e w4 ⟨hM, hb4⟩
  have hB4 := Box.mk (mono_bel hB3.out hb4 (Nat.le_refl _))
  have h4B := Box.mk (h3B.out.here hb4)
  have hrl := ris_length (setI n7 5)
  have hsl := setI_length n7 5
  obtain ⟨ids8, hi8⟩ : ∃ l, ris (setI n7 5) = l := ⟨_, rfl⟩
  rw [hi8] at hM hgood hrl
  rcases hM with ⟨_, v8, rfl, hT⟩ | ⟨hbad, _⟩
  case inr => rw [hgood.out] at hbad; cases hbad
  have hl8 : Box (ids8.length ≤ 10) := ⟨by omega⟩
  obtain ⟨a8, c8, rfl⟩ := hT.shape
  obtain ⟨l8, hl8e⟩ : ∃ l, ids8.length = l := ⟨_, rfl⟩
  rw [hl8e] at hT ⊢
  obtain ⟨W5, hW5⟩ : ∃ W5, w4.alloc (.cells #[.slice a8 l8 c8, .int .i64 1] 24) = W5 := ⟨_, rfl⟩
  have hb5 : Below w4.heap.size w4 W5 := by rw [← hW5]; exact bel_alloc _ _
  have hS5 : Box (Blk W5 w4.heap.size [.slice a8 l8 c8, .int .i64 1] 24) := ⟨by rw [← hW5]; exact Blk.new w4 _ _⟩
  have hP5 := Box.mk (hT.parts.here hb5)
  have hB5 := Box.mk (mono_bel hB4.out hb5 (Nat.le_refl _))
  have h5B := Box.mk (h4B.out.here hb5)
  obtain ⟨bS, hbS⟩ : ∃ b, w4.heap.size = b := ⟨_, rfl⟩
  rw [hbS] at hS5
  clear hT hrl hsl hB3 h3B hB4 h4B hb5 hb4 hi8
  rcases Nat.eq_zero_or_pos L1 with hLz | hLp
  · subst hLz
    clear hl8e
    go_wp2_with fail
    go_ret
    exact ⟨rfl, hB5.out⟩
  obtain ⟨blk, off, rfl, hbl, hc⟩ := hh1.out hLp
  have hr : bs1.getD 0 default ∈ bs1 := by
    have h1 : 0 < bs1.length := by rw [hL1.out]; exact hLp
    simp [List.getD, h1]
  have ht1 := (hok.out _ hr).2.2.2.2
  have f2 := Box.mk fun W (hW : Below w.heap.size w W) => (hW.cell (p := ⟨blk, off + 0 * 5 + 2, none⟩) hbl).trans (hc 0 hLp 2 _ rfl)
  obtain ⟨text, hte⟩ : ∃ t, (bs1.getD 0 default).t = t := ⟨_, rfl⟩
  rw [hte] at ht1 f2
  simp only [Nat.zero_mul, Nat.add_zero] at f2
  have htx := Box.mk ht1
  obtain ⟨M1, hM1⟩ : ∃ M, min L1 4 = M := ⟨_, rfl⟩
  obtain ⟨M2, hM2⟩ : ∃ M, min L2 4 = M := ⟨_, rfl⟩
  have hmin1 : min (L1 : Int) 4 = (M1 : Int) := by omega
  have hmin2 : min (L2 : Int) 4 = (M2 : Int) := by omega
  have hMc1 : M1 ≤ cap1 := by omega
  have hMc2 : M2 ≤ cap2 := by omega
  have hLi : ¬ L1 = 0 := by omega
  have hg1 := Box.mk fun W (hW : Below W5.heap.size W5 W) => signs7_any _ _ (bs1.take M1) w2 W (h5B.out.here hW) ((hu1B.out.first M1 (by omega)).here (mono_bel hB5.out hW (Nat.le_refl _)))
  have hg2 := Box.mk fun W (hW : Below W5.heap.size W5 W) => signs7_any _ _ (bs2.take M2) w2 W (h5B.out.here hW) ((hu2B.out.first M2 (by omega)).here (mono_bel hB5.out hW (Nat.le_refl _)))
  have hk1 : Box ((bs1.take M1).length = M1) := ⟨by rw [List.length_take, hL1.out]; omega⟩
  have hk2 : Box ((bs2.take M2).length = M2) := ⟨by rw [List.length_take, hL2.out]; omega⟩
  have hM14 : M1 ≤ 4 := by omega
  have hM24 : M2 ≤ 4 := by omega
  have hM11 : 1 ≤ M1 := by omega
  replace hM1 := Box.mk hM1
  replace hM2 := Box.mk hM2
  replace hl8e := Box.mk hl8e
  clear hok hh1 hr ht1 hte hbl hc
  go_wp2_with fail
  refine region_steadyC (PC W5) (PC W5) (fun w w' => Below w.heap.size w w') rfl (dB W5) ?_
  refine anyS_calms [0, 1, 2, 3, 4, 5, 7, 8, 9, 10, 11, 12] 4 rfl (fun _ => Below.refl _ _) (PC.st W5) (by kernel_rfl) (by kernel_rfl) (by kernel_rfl) ?_
  simp [nth]
  try simp only [Act.put, List.setIfInBounds_toArray, List.set_cons_succ, List.set_cons_zero]
  repeat (go_big_quiet_step (first | exact fun _ => rfl | rfl))
  refine wpQuiet_nil ?_
  refine anyS_forced 6 (by kernel_rfl) rfl rfl (fun wa hWa K hK => ?_)
  have hF := hg1.out wa hWa
  go_simp
  refine hF.mono ?_
  clear hF
  rintro e wb ⟨v10, sg1, rfl, hG, hs1⟩
  refine hK _ _ (fun w' => PC W5 w' ∧ PC wb w') (PD.st W5 wb) ⟨mono_bel hWa hG.bel (Nat.le_refl _), Below.refl _ _⟩ ?_
  have hG1 := Box.mk hG.sigs
  rw [hk1.out, Nat.min_eq_left (by omega)] at hs1
  obtain ⟨a10, c10, rfl⟩ := hG.row.shape
  rw [hs1] at hG1 ⊢
  clear hK K hWa hG wa
  refine anyS_forced 13 (by kernel_rfl) rfl rfl (fun wa hWa K hK => ?_)
  have hF := hg2.out wa hWa.1
  go_simp
  refine hF.mono ?_
  clear hF
  rintro e wc ⟨v11, sg2, rfl, hG, hs2⟩
  refine hK _ _ (fun w' => PC W5 w' ∧ PC wc w') (PD.st W5 wc) ⟨mono_bel hWa.1 hG.bel (Nat.le_refl _), Below.refl _ _⟩ ?_
  have hG2 := Box.mk hG.sigs
  have hG1c := Box.mk (hG1.out.here (mono_bel hWa.2 hG.bel (Nat.le_refl _)))
  rw [hk2.out, Nat.min_eq_left (by omega)] at hs2
  obtain ⟨a11, c11, rfl⟩ := hG.row.shape
  rw [hs2] at hG2 ⊢
  clear hK K hWa hG hG1 wa wb hg1 hg2 hk1 hk2
  refine anyS_calms [14, 15] 0 rfl (fun _ => Below.refl _ _) (PD.st W5 wc) (by kernel_rfl) (by kernel_rfl) (by kernel_rfl) ?_
  simp [nth]
  try simp only [Act.put, List.setIfInBounds_toArray, List.set_cons_succ, List.set_cons_zero]
  repeat (go_big_quiet_step (first | exact fun _ => rfl | rfl))
  refine wpQuiet_nil ?_
  refine anyS_done (by kernel_rfl) (fun W6 hW6 => ?_)
  have hG1 := Box.mk (hG1c.out.here hW6.2)
  have hG2d := Box.mk (hG2.out.here hW6.2)
  have hB6 := Box.mk (mono_bel hB5.out hW6.1 (Nat.le_refl _))
  have hP6 := Box.mk (hP5.out.here hW6.1)
  have hS6 := Box.mk (hS5.out.below hW6.1 hS5.out.lt)
  have f2c := f2.out W6 hB6.out
  obtain ⟨W7, hW7⟩ : ∃ W7, W6.alloc (.cells #[] 48) = W7 := ⟨_, rfl⟩
  have hb7 : Below W6.heap.size W6 W7 := by rw [← hW7]; exact bel_alloc _ _
  have h7 : SgRow W6 W7 (.slice (some ⟨W6.heap.size, 0, none⟩) 0 0) [] := ⟨⟨rfl, .inr ⟨W6.heap.size, 0, #[], rfl, Nat.zero_le _, by rw [← hW7]; exact heap_alloc_new W6 _, Nat.le_refl _, Nat.zero_le _, rfl, rfl⟩⟩, fun k hk => by cases hk; exact Nat.le_refl _, hb7⟩
  have hz7 := Box.mk (hG2d.out.here hb7)
  have hs1B := Box.mk hs1
  have hs2B := Box.mk hs2
  replace h7 := Box.mk h7
  clear hG1c hG2 hG2d hW6 hP5 hB5 h5B hu1B hu2B hmin1 hmin2 hb7 hs1 hs2
  go_wp2_with (at_builtin; refine wpList_pushG rfl (.tmp 59) (.tmp 60) rfl _ 0 [] rfl h7.out.row a11 M2 c11 sg2 rfl hs2B.out hz7.out (by omega) ?_)
  intro v61 w8 hp8
  have h8 := Box.mk (h7.out.pushL (zs := sg2) (v' := v61) (w2 := w8) hs2B.out (by have e : ([] : List (ByteArray × ByteArray)).length + M2 = M2 := Nat.zero_add _; rw [e]; exact hp8))
  have hz8 := Box.mk (hG1.out.here h8.out.bel)
  clear hp8 h7 hz7 f2c hW7
  go_wp2_with (at_builtin; refine wpList_pushG rfl (.tmp 61) (.tmp 62) rfl _ M2 (sgC sg2) rfl (by rw [← hs2B.out]; exact h8.out.row) a10 M1 c10 sg1 rfl hs1B.out hz8.out (by omega) ?_)
  intro v13 w9 hp9
  rw [← hs2B.out] at hp9
  have h9 := Box.mk (h8.out.pushL hs1B.out hp9)
  clear hp9 h8 hz8
  obtain ⟨al, hal⟩ : ∃ l, [] ++ sg2 ++ sg1 = l := ⟨_, rfl⟩
  have hN : al.length = M2 + M1 := by rw [← hal, List.nil_append, List.length_append, hs1B.out, hs2B.out]
  have hsub : Box (∀ x ∈ sg1, x ∈ al) := ⟨fun x hx => by rw [← hal]; exact List.mem_append_right _ hx⟩
  rw [hal] at h9
  obtain ⟨N, hNe⟩ : ∃ N, al.length = N := ⟨_, rfl⟩
  obtain ⟨g13, c13, e13, _⟩ := h9.out.row.some (by omega)
  rw [hNe] at e13
  subst e13
  have hN1 : 1 ≤ N := by omega
  have hN8 : N ≤ 8 := by omega
  have hal9 := Box.mk h9.out.sigs
  have hG19 := Box.mk (hG1.out.here h9.out.bel)
  have hB9 := Box.mk (mono_bel hB6.out h9.out.bel (Nat.le_refl _))
  have hP9 := Box.mk (hP6.out.here h9.out.bel)
  have hS9 := Box.mk (hS6.out.below h9.out.bel hS6.out.lt)
  replace hNe := Box.mk hNe
  have hA0 : Box (SgRow w9 w9 (.slice none 0 0) []) := ⟨⟨Pk.Row.nil _ _ _, (fun k hk => by cases hk), Below.refl _ _⟩⟩
  have hBk0 : Box (BkIs al [] 0) := ⟨⟨fun x hx => (by cases hx), fun j hj => absurd hj (Nat.not_lt_zero j)⟩⟩
  obtain ⟨i0, hi0, hz0, hz1, hz2⟩ := info_parts info_sig
  clear hal hN h9 hG1 hB6 hP6 hS6
  go_wp2_with fail
  go_loopw [14, 15, 66] (fun v14 _ q wr => ∃ i : Nat, i ≤ N ∧ q = .int .i64 (i : Int) ∧ ∃ bk, bk.length = 2 * i ∧ Box (SgRow w9 wr v14 bk) ∧ Box (BkIs al bk i)) (fun _ _ q _ => N - (intOf q).toNat)
  case atStart => exact ⟨0, by omega, rfl, [], rfl, hA0, hBk0⟩
  case round =>
    clear hA0 hBk0
    obtain ⟨i, hi, rfl, bk, hbk, hA, hBk⟩ := hrel
    obtain ⟨a14, c14, rfl⟩ := hA.out.row.shape
    by_cases hlt : i < N
    · obtain ⟨k, hk⟩ : ∃ k, N - 1 - i = k := ⟨_, rfl⟩
      have hkN : k < N := by omega
      have hki : (N : Int) - 1 - (i : Int) = (k : Int) := by omega
      have hii : (i : Int) < (N : Int) := by omega
      have hBk2 := Box.mk (hBk.out.next (i := i) (k := k) (by rw [hNe.out]; exact hlt) (by rw [hNe.out]; exact hkN))
      have hcx := Box.mk fun W (hW : PC w9 W) (j : Nat) (u : Value) (hu : (sgC al)[j]? = some u) => (hal9.out.here hW).cells j u hu
      have hcy := sgC_get al i (by rw [hNe.out]; exact hlt)
      have hck := sgC_get al k (by rw [hNe.out]; exact hkN)
      obtain ⟨x, hx⟩ : ∃ x, al.getD k default = x := ⟨_, rfl⟩
      obtain ⟨y, hy⟩ : ∃ y, al.getD i default = y := ⟨_, rfl⟩
      rw [hx, hy] at hBk2
      rw [hx] at hck
      rw [hy] at hcy
      obtain ⟨x1, x2⟩ := x
      obtain ⟨y1, y2⟩ := y
      have hX := Box.mk fun W (hW : PC w9 W) => hcx.out W hW _ _ hck.1
      have hX2 := Box.mk fun W (hW : PC w9 W) => hcx.out W hW _ _ hck.2
      have hY := Box.mk fun W (hW : PC w9 W) => hcx.out W hW _ _ hcy.1
      have hY2 := Box.mk fun W (hW : PC w9 W) => hcx.out W hW _ _ hcy.2
      simp only [Nat.zero_add] at hX hX2 hY hY2
      clear hcx hcy hck hx hy hk hBk
      go_wp2_with fail
      refine region_steadyC (PC w9) (fun w' => SgRow w9 w' _ bk) (fun w w' => Below w.heap.size w w') rfl (hA.out.here (dB wr)) ?_
      refine anyS_calms [0, 1, 2, 3, 4, 5, 6, 7, 8, 9, 10, 11, 12] 3 rfl (fun _ => Below.refl _ _) (SgRow.st _ _ _) (by kernel_rfl) (by kernel_rfl) (by kernel_rfl) ?_
      simp [nth]
      try simp only [Act.put, List.setIfInBounds_toArray, List.set_cons_succ, List.set_cons_zero]
      repeat (go_big_quiet_step (first | exact fun _ => rfl | rfl))
      refine quiet_val rfl (.agg #[.string x1, .string x2]) (fun w' hw' => by have h3 := hX.out w' hw'; have h4 := hX2.out w' hw'; go_simp) ?_
      simp only [Act.put, List.setIfInBounds_toArray, List.set_cons_succ, List.set_cons_zero]
      repeat (go_big_quiet_step (first | exact fun _ => rfl | rfl))
      refine quiet_val rfl (.agg #[.string y1, .string y2]) (fun w' hw' => by have h3 := hY.out w' hw'; have h4 := hY2.out w' hw'; go_simp) ?_
      simp only [Act.put, List.setIfInBounds_toArray, List.set_cons_succ, List.set_cons_zero]
      repeat (go_big_quiet_step (first | exact fun _ => rfl | rfl))
      refine wpQuiet_nil ?_
      refine anyS_forced 13 (by kernel_rfl) rfl rfl (fun wb hWb K hK => ?_)
      obtain ⟨wc, hwc⟩ : ∃ wc, wb.alloc (.cells #[.string x1, .string x2, .string y1, .string y2] 48) = wc := ⟨_, rfl⟩
      have hbc : Below wb.heap.size wb wc := by rw [← hwc]; exact bel_alloc _ _
      have hQ : Blk wc wb.heap.size (sgC [(x1, x2), (y1, y2)]) 48 := by rw [← hwc]; exact Blk.new wb _ _
      have hWc := hWb.here hbc
      obtain ⟨bq, hbq⟩ : ∃ b, wb.heap.size = b := ⟨_, rfl⟩
      rw [hbq] at hQ
      go_simp
      refine hK _ _ (SgL w9 _ bk bq [(x1, x2), (y1, y2)]) (SgL.st _ _ _ _ _) ⟨hWc, hQ⟩ ?_
      clear hK K hwc hbc hQ hWc hbq hWb wb wc
      refine anyS_forced 14 (by kernel_rfl) rfl rfl (fun wd hWd K hK => ?_)
      have hrow := hWd.1.row
      have hnew : ∀ j u, (sgC [(x1, x2), (y1, y2)])[j]? = some u → wd.cell? ((⟨bq, 0, none⟩ : Addr).add j) = some u := fun j u hu => by
        have h1 := hWd.2.cell j
        rw [hu] at h1
        rw [← h1]
        unfold Addr.add
        split
        · next h => subst h; rfl
        · simp
      refine Pk.wp_pushR (.tmp 69) (.tmp 82) 38 48 rfl i0 (.agg #[.string ByteArray.empty, .string ByteArray.empty]) 2 32 Tryz.underlying38 hi0 hz0 hz1 hz2 rfl (by decide) _ bk.length (sgC bk) rfl (by rw [← hbk]; exact hrow) ⟨bq, 0, none⟩ 2 2 (sgC [(x1, x2), (y1, y2)]) rfl rfl hnew (by simp [sgC, sigC, Value.oneCell']) (by unfold maxLen; omega) (by omega) ?_
      intro v5 w5 hp5
      rw [← hbk] at hp5
      have hN5 := hWd.1.pushL (zs := [(x1, x2), (y1, y2)]) rfl hp5
      refine hK _ _ (fun w' => SgRow w9 w' v5 (bk ++ [(x1, x2), (y1, y2)])) (SgRow.st _ _ _) hN5 ?_
      clear hK K hrow hnew hp5 hN5 hWd wd w5
      refine anyS_last 15 (by kernel_rfl) rfl rfl (by kernel_rfl) (by kernel_rfl) (fun w11 hC11 K hK => ?_)
      have hA7 := Box.mk hC11
      clear hC11
      go_simp
      refine hK _ _ ?_
      clear hK K
      have hs7 : (bk ++ [(x1, x2), (y1, y2)]).length = 2 * (i + 1) := by rw [List.length_append, hbk]; simp; omega
      obtain ⟨bk7, hbk7⟩ : ∃ l, bk ++ [(x1, x2), (y1, y2)] = l := ⟨_, rfl⟩
      rw [hbk7] at hA7 hs7 hBk2
      clear hbk7
      go_wp2_with fail
      exact ⟨⟨i + 1, by omega, by go_num, bk7, hs7, hA7, hBk2⟩, by simp [intOf]; omega⟩
    · obtain rfl : i = N := by omega
      obtain ⟨W10, hW10⟩ : ∃ W, W = wr := ⟨_, rfl⟩
      subst hW10
      have hall := hBk.out
      rw [← hNe.out] at hall
      have hsame := Box.mk (who_mem ids8 text bk al hall.all)
      have hbk16 : bk.length ≤ 16 := by omega
      have hSb0 := hA.out.sigs
      rw [hbk] at hSb0
      have hSb := Box.mk hSb0
      have hSa := Box.mk (hal9.out.here hA.out.bel)
      have hSs := Box.mk (hG19.out.here hA.out.bel)
      have hP := Box.mk (hP9.out.here hA.out.bel)
      have hS := Box.mk (hS9.out.below hA.out.bel hS9.out.lt)
      have hBw := Box.mk (mono_bel hB9.out hA.out.bel (Nat.le_refl _))
      have hKw := Box.mk (hKB.out.below hBw.out hKB.out.lt)
      have hfm := Box.mk (few_many ids8 text sg1 al hsub.out)
      have hl8m : Box (ids8.length ≤ maxLen) := ⟨by have := hl8.out; unfold maxLen; omega⟩
      have hwho := Box.mk fun (v : Value) (sg : List (ByteArray × ByteArray)) (hsm : sg.length ≤ 16) (hsv : SigsAt W10 v sg) (R : List ByteArray) (hR : whoL ids8 text sg = R) wa (hb : Below W10.heap.size W10 wa) => (show Calls Tryz.prog 17 #[.agg #[.slice a8 l8 c8, .int .i64 1], .string text, v] wa fun e w' => WhoS wa.heap.size R e w' ∧ Below wa.heap.size wa w' by
        have := who_any _ ids8 1 text v sg wa (hP.out.here hb) hl8m.out (hsv.here hb) (by unfold maxLen; omega) (hKw.out.below hb hKw.out.lt) htx.out
        rw [whoE_good _ _ _ hgood.out, hR] at this
        exact this)
      obtain ⟨F, hF⟩ : ∃ F, whoL ids8 text sg1 = F := ⟨_, rfl⟩
      obtain ⟨Mn, hMn⟩ : ∃ M, whoL ids8 text al = M := ⟨_, rfl⟩
      have hw1 := Box.mk (hwho.out _ sg1 (by rw [hs1B.out]; omega) hSs.out F hF)
      have hw2 := Box.mk (hwho.out _ al (by rw [hNe.out]; omega) hSa.out Mn hMn)
      have hw3 := Box.mk (hwho.out _ bk hbk16 hSb.out Mn (by rw [hsame.out]; exact hMn))
      have hMl : Mn.length ≤ 10 := by
        rw [← hMn]
        exact Nat.le_trans (List.length_filter_le _ _) hl8.out
      obtain ⟨p, hp⟩ : ∃ p : ByteArray → Bool, (fun id => sg1.any (sgnB id text)) = p := ⟨_, rfl⟩
      have hFM : Box (F = Mn.filter p) := ⟨by rw [← hF, ← hMn, ← hp]; exact hfm.out⟩
      clear hall hsame hSb hSb0 hSa hSs hP hKw hfm hl8m hwho hF hMn hp hA hBk hG19 hB9 hP9 hS9
      go_wp2_with fail
      refine region_steadyC (PC W10) (QT W10 []) (fun w w' => Below w.heap.size w w') rfl ⟨dB W10, fun p hp => by cases hp⟩ ?_
      refine anyS_calms [0, 1, 2, 4, 5, 6, 8, 9, 10] 6 rfl (fun _ => Below.refl _ _) (QT.st _ _) (by kernel_rfl) (by kernel_rfl) (by kernel_rfl) ?_
      simp [nth]
      try simp only [Act.put, List.setIfInBounds_toArray, List.set_cons_succ, List.set_cons_zero]
      repeat (go_big_quiet_step (first | exact fun _ => rfl | rfl))
      refine quiet_val rfl (.agg #[.slice a8 l8 c8, .int .i64 1]) (fun w' hw' => by have h3 := (hS.out.below hw' hS.out.lt).cell 0; have h4 := (hS.out.below hw' hS.out.lt).cell 1; simp only [List.getElem?_cons_zero, List.getElem?_cons_succ] at h3 h4; go_simp) ?_
      simp only [Act.put, List.setIfInBounds_toArray, List.set_cons_succ, List.set_cons_zero]
      repeat (go_big_quiet_step (first | exact fun _ => rfl | rfl))
      refine quiet_val rfl (.agg #[.slice a8 l8 c8, .int .i64 1]) (fun w' hw' => by have h3 := (hS.out.below hw' hS.out.lt).cell 0; have h4 := (hS.out.below hw' hS.out.lt).cell 1; simp only [List.getElem?_cons_zero, List.getElem?_cons_succ] at h3 h4; go_simp) ?_
      simp only [Act.put, List.setIfInBounds_toArray, List.set_cons_succ, List.set_cons_zero]
      repeat (go_big_quiet_step (first | exact fun _ => rfl | rfl))
      refine quiet_val rfl (.agg #[.slice a8 l8 c8, .int .i64 1]) (fun w' hw' => by have h3 := (hS.out.below hw' hS.out.lt).cell 0; have h4 := (hS.out.below hw' hS.out.lt).cell 1; simp only [List.getElem?_cons_zero, List.getElem?_cons_succ] at h3 h4; go_simp) ?_
      simp only [Act.put, List.setIfInBounds_toArray, List.set_cons_succ, List.set_cons_zero]
      repeat (go_big_quiet_step (first | exact fun _ => rfl | rfl))
      refine wpQuiet_nil ?_
      refine anyS_forced 3 (by kernel_rfl) rfl rfl (fun wa hWa K hK => ?_)
      go_simp
      refine (hw1.out wa hWa.1).mono ?_
      rintro e wb ⟨⟨vvF, rfl, hT⟩, hbb⟩
      obtain ⟨avF, cvF, rfl⟩ := hT.shape
      refine hK _ _ (QT W10 _) (QT.st _ _) (hWa.add hbb hT) ?_
      clear hK K hWa hbb hT wa wb
      refine anyS_forced 7 (by kernel_rfl) rfl rfl (fun wa hWa K hK => ?_)
      go_simp
      refine (hw2.out wa hWa.1).mono ?_
      rintro e wb ⟨⟨vvM, rfl, hT⟩, hbb⟩
      obtain ⟨avM, cvM, rfl⟩ := hT.shape
      refine hK _ _ (QT W10 _) (QT.st _ _) (hWa.add hbb hT) ?_
      clear hK K hWa hbb hT wa wb
      refine anyS_forced 11 (by kernel_rfl) rfl rfl (fun wa hWa K hK => ?_)
      go_simp
      refine (hw3.out wa hWa.1).mono ?_
      rintro e wb ⟨⟨vvT, rfl, hT⟩, hbb⟩
      obtain ⟨avT, cvT, rfl⟩ := hT.shape
      refine hK _ _ (QT W10 _) (QT.st _ _) (hWa.add hbb hT) ?_
      clear hK K hWa hbb hT wa wb
      refine anyS_calms [12, 13, 14] 0 rfl (fun _ => Below.refl _ _) (QT.st _ _) (by kernel_rfl) (by kernel_rfl) (by kernel_rfl) ?_
      simp [nth]
      try simp only [Act.put, List.setIfInBounds_toArray, List.set_cons_succ, List.set_cons_zero]
      repeat (go_big_quiet_step (first | exact fun _ => rfl | rfl))
      refine wpQuiet_nil ?_
      refine anyS_done (by kernel_rfl) (fun w12 hC12 => ?_)
      replace hC12 := Box.mk hC12
      have hc0 : cntP p Mn 0 = 0 := rfl
      go_wp2_with fail
      go_loopw [19, 21, 99] (fun q19 _ q wr2 => ∃ i : Nat, i ≤ Mn.length ∧ q = .int .i64 (i : Int) ∧ q19 = .int .i64 ((cntP p Mn i : Nat) : Int) ∧ Box (QT W10 [(.slice avT Mn.length cvT, Mn), (.slice avM Mn.length cvM, Mn), (.slice avF F.length cvF, F)] wr2)) (fun _ _ q _ => Mn.length - (intOf q).toNat)
      case atStart => exact ⟨0, by omega, rfl, by rw [hc0]; rfl, hC12⟩
      case round =>
        clear hC12 hc0
        obtain ⟨i, hi, rfl, rfl, hC⟩ := hrel
        by_cases hlt : i < Mn.length
        · obtain ⟨gM, rfl, hle, hcp, hcell⟩ := (hC.out.2 (.slice avM Mn.length cvM, Mn) (by simp)).at i hlt
          have hyes := cnt_yes p Mn i hlt
          have hno := cnt_no p Mn i hlt
          have hle2 := cnt_le p Mn i
          rw [← hFM.out] at hyes hno hle2
          obtain ⟨c1, hc1e⟩ : ∃ c, cntP p Mn (i + 1) = c := ⟨_, rfl⟩
          rw [hc1e] at hyes hno
          replace hc1e := Box.mk hc1e
          obtain ⟨id, hid⟩ : ∃ x, Mn.getD i ByteArray.empty = x := ⟨_, rfl⟩
          rw [hid] at hyes hno hcell
          obtain ⟨c, hce⟩ : ∃ c, cntP p Mn i = c := ⟨_, rfl⟩
          rw [hce] at hyes hno hle2 ⊢
          unfold maxLen at hcp
          have hii : (i : Int) < (Mn.length : Int) := by omega
          clear hce hid
          cases hpi : p id with
          | true =>
            obtain ⟨k1, k2, rfl⟩ := hyes hpi
            obtain ⟨gF, rfl, hfe, hfp, hcell2⟩ := (hC.out.2 (.slice avF F.length cvF, F) (by simp)).at c k1
            rw [k2] at hcell2
            unfold maxLen at hfp
            have heq : (id.toList == id.toList) = true := by simp
            have hcI : (c : Int) < (F.length : Int) := by omega
            clear hyes hno hpi k2
            go_wp2_with fail
            exact ⟨⟨i + 1, by omega, by go_num, by rw [hc1e.out]; go_num, hC⟩, by simp [intOf]; omega⟩
          | false =>
            obtain ⟨rfl, k2⟩ := hno hpi
            by_cases hcl : c1 < F.length
            · obtain ⟨gF, rfl, hfe, hfp, hcell2⟩ := (hC.out.2 (.slice avF F.length cvF, F) (by simp)).at c1 hcl
              have hne := k2 hcl
              obtain ⟨z, hz⟩ : ∃ z, F.getD c1 ByteArray.empty = z := ⟨_, rfl⟩
              rw [hz] at hne hcell2
              unfold maxLen at hfp
              have heq : (z.toList == id.toList) = false := by rw [eq_toList]; simpa using hne
              have hcI : (c1 : Int) < (F.length : Int) := by omega
              clear hyes hno hpi k2 hz hne
              go_wp2_with fail
              exact ⟨⟨i + 1, by omega, by go_num, by rw [hc1e.out], hC⟩, by simp [intOf]; omega⟩
            · have hcI : ¬ (c1 : Int) < (F.length : Int) := by omega
              clear hyes hno hpi k2
              go_wp2_with fail
              exact ⟨⟨i + 1, by omega, by go_num, by rw [hc1e.out], hC⟩, by simp [intOf]; omega⟩
        · obtain rfl : i = Mn.length := by omega
          have hca : cntP p Mn Mn.length = F.length := by rw [cnt_all, ← hFM.out]
          rw [hca]
          have hSm := same_any (.slice avM Mn.length cvM) (.slice avT Mn.length cvT) Mn Mn wr (hC.out.2 (.slice avM Mn.length cvM, Mn) (by simp)).parts (hC.out.2 (.slice avT Mn.length cvT, Mn) (by simp)).parts (by unfold maxLen; omega)
          rw [show texB Mn Mn = true by simp [texB]] at hSm
          have hB12 := Box.mk (mono_bel hBw.out hC.out.1 (Nat.le_refl _))
          clear hca hi hlt hC
          go_wp2_with fail
          refine hSm.mono ?_
          clear hSm
          rintro e w14 ⟨rfl, hb14⟩
          have hB14 := Box.mk (mono_bel hB12.out hb14 (Nat.le_refl _))
          clear hb14 hB12
          go_wp2_with fail
          go_ret
          exact ⟨rfl, hB14.out⟩
end Go.Proofs.YtkchaflijlmpgaaGreatDoor
