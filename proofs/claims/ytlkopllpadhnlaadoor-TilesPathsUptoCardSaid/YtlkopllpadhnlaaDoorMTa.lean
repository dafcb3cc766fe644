/- Walks of tree.Root and of the document's Root. | Rows of texts that are made and appended to. | Walks of tree.place, tree.Inclusion and of the document's inclusion, Inclusion. | Walk of the document's inclusion. | Walks of tree.Inclusion and of the document's Inclusion. -/
import Derived.Deep.Upon
import Derived.Test.YtlkopllpadhnlaaDoorTrB
import Derived.Test.YtlkopllpadhnlaaDoorTrA
import Derived.Test.YtlkopllpadhnlaaDoorQg
namespace Go.Proofs.YtlkopllpadhnlaaDoor
open Go Go.RowKit

theorem fit_node {l : List ByteArray} (h : Fit l) (k : Nat) : (rootL (l.take k)).size ≤ 70000000000000 ∧ (rootL (l.drop k)).size ≤ 70000000000000 := ⟨root_size _ (h.take k), root_size _ (h.drop k)⟩
/-- A call that changes nothing that was there, told from an earlier world. -/
theorem bel_call {f : FuncId} {args : Array Value} {w0 w : World} {v : Value} (h : Calls Tryd.prog f args w fun e w' => e = .returned v ∧ Below w.heap.size w w') (hb : Below w0.heap.size w0 w) :
    Calls Tryd.prog f args w fun e w' => e = .returned v ∧ Below w0.heap.size w0 w' := h.mono fun _ _ h2 => ⟨h2.1, mono_bel hb h2.2 (Nat.le_refl _)⟩
set_option maxHeartbeats 1600000 in
set_option maxRecDepth 100000 in
theorem root_any : ∀ (n : Nat) (l : List ByteArray) (a : Option Addr) (c : Nat) (w : World), PA w a n c l → KIs w → Fit l →
    Calls Tryd.prog 42 #[.slice a n c] w fun e w' => e = .returned (.string (rootL l)) ∧ Below w.heap.size w w' := by
  intro n
  induction n using Nat.strongRecOn with
  | ind n ih =>
    intro l a c w hP hK hF
    have hlen := hP.len
    rcases Nat.lt_or_ge n 2 with hn | hn
    · rcases Nat.eq_zero_or_pos n with h0 | h0
      · subst h0
        obtain rfl : l = [] := List.length_eq_zero_iff.1 hlen
        have hS := sum_parts (.slice none 0 0) [] w ⟨none, 0, rfl, fun h => absurd h (Nat.lt_irrefl 0)⟩ hK (by simp [flat]) (by simp)
        rw [show hashOf (flat []) = noneH from rfl, ← rootL_nil] at hS
        clear ih hP hK hF hlen hn
        go_enter Tryd.func42, Tryd.ntmps42
        go_wp2_with fail
        refine hS.mono ?_
        rintro e w3 ⟨rfl, hb3⟩
        clear hS
        go_wp2_with fail
        go_ret
        exact ⟨rfl, hb3⟩
      · obtain rfl : n = 1 := by omega
        obtain ⟨blk, off, rfl, hl, hc⟩ := hP.at_ (by omega)
        obtain ⟨x, rfl⟩ : ∃ x, l = [x] := List.length_eq_one_iff.1 hlen
        have h0 : w.cell? ⟨blk, off, none⟩ = some (.string x) := hc 0 (by omega)
        rw [rootL_one]
        clear ih hP hK hF hlen hn hc
        go_enter Tryd.func42, Tryd.ntmps42
        go_wp2_with fail
        go_ret
        exact ⟨rfl, Below.refl _ _⟩
    · have hk := cutN_lt hn
      have hk0 := cutN_pos n
      have hcap := hP.cap
      have htop := hP.top
      obtain ⟨hz1, hz2⟩ := fit_node hF (cutN n)
      rw [rootL_cut l (by omega), hlen]
      obtain ⟨blk, off, rfl, _⟩ := hP.at_ (by omega)
      have hC := cut_any n
      have hL := fun w' (hb : Below w.heap.size w w') => ih (cutN n) hk (l.take (cutN n)) _ c w' ((hP.here hb).take (by omega)) (hK.below hb hK.lt) (hF.take _)
      have hR := fun w' (hb : Below w.heap.size w w') => ih (n - cutN n) (by omega) (l.drop (cutN n)) _ (c - cutN n) w' ((hP.here hb).drop (by omega)) (hK.below hb hK.lt) (hF.drop _)
      obtain ⟨x, hx⟩ : ∃ x, rootL (l.take (cutN n)) = x := ⟨_, rfl⟩
      obtain ⟨y, hy⟩ : ∃ y, rootL (l.drop (cutN n)) = y := ⟨_, rfl⟩
      rw [hx] at hL hz1 ⊢
      rw [hy] at hR hz2 ⊢
      have hN := fun w' (hb : Below w.heap.size w w') => tnode_any x y w' (hK.below hb hK.lt) (by omega) (by omega)
      obtain ⟨k, hkk⟩ : ∃ k, cutN n = k := ⟨_, rfl⟩
      rw [hkk] at hk hk0 hC hL hR
      have hCk := hC w hn (by omega)
      clear hC hx hy hz1 hz2 hkk ih hF hP hlen
      go_enter Tryd.func42, Tryd.ntmps42
      go_wp2_with fail
      refine hCk.mono ?_
      rintro e w3 ⟨rfl, rfl⟩
      clear hCk
      go_wp2_with fail
      refine region_quiet (fun w' => Below w3.heap.size w3 w') (by kernel_rfl) (by kernel_rfl) (dB _) ?_
      repeat (go_big_quiet_step (first | exact fun _ => rfl | rfl))
      refine quiet_call rfl (.string x) (fun w' hw' => bel_call (hL w' hw') hw') (fun w' _ => by go_simp) ?_
      simp only [Act.put, List.setIfInBounds_toArray, List.set_cons_succ, List.set_cons_zero]
      repeat (go_big_quiet_step (first | exact fun _ => rfl | rfl))
      refine quiet_call rfl (.string y) (fun w' hw' => bel_call (hR w' hw') hw') (fun w' _ => by go_simp) ?_
      simp only [Act.put, List.setIfInBounds_toArray, List.set_cons_succ, List.set_cons_zero]
      repeat (go_big_quiet_step (first | exact fun _ => rfl | rfl))
      refine quiet_call rfl (.string (nodeH x y)) (fun w' hw' => bel_call (hN w' hw') hw') (fun w' _ => by go_simp) ?_
      simp only [Act.put, List.setIfInBounds_toArray, List.set_cons_succ, List.set_cons_zero]
      repeat (go_big_quiet_step (first | exact fun _ => rfl | rfl))
      refine wpQuiet_nil ?_
      clear hL hR hN
      intro w7 hw7
      go_wp2_with fail
      go_ret
      exact ⟨rfl, hw7⟩
set_option maxHeartbeats 1600000 in
set_option maxRecDepth 100000 in
theorem rroot_any : ∀ (n : Nat) (l : List ByteArray) (a : Option Addr) (c : Nat) (w : World), PA w a n c l → Fit l →
    Calls Tryd.prog 25 #[.slice a n c] w fun e w' => e = .returned (.string (rootL l)) ∧ Below w.heap.size w w' := by
  intro n
  induction n using Nat.strongRecOn with
  | ind n ih =>
    intro l a c w hP hF
    have hlen := hP.len
    rcases Nat.lt_or_ge n 2 with hn | hn
    · rcases Nat.eq_zero_or_pos n with h0 | h0
      · subst h0
        obtain rfl : l = [] := List.length_eq_zero_iff.1 hlen
        have hS := rsum_parts (.slice none 0 0) [] w ⟨none, 0, rfl, fun h => absurd h (Nat.lt_irrefl 0)⟩ (by simp [flat]) (by simp)
        rw [show hashOf (flat []) = noneH from rfl, ← rootL_nil] at hS
        clear ih hP hF hlen hn
        go_enter Tryd.func25, Tryd.ntmps25
        go_wp2_with fail
        refine hS.mono ?_
        rintro e w3 ⟨rfl, hb3⟩
        clear hS
        go_wp2_with fail
        go_ret
        exact ⟨rfl, hb3⟩
      · obtain rfl : n = 1 := by omega
        obtain ⟨blk, off, rfl, hl, hc⟩ := hP.at_ (by omega)
        obtain ⟨x, rfl⟩ : ∃ x, l = [x] := List.length_eq_one_iff.1 hlen
        have h0 : w.cell? ⟨blk, off, none⟩ = some (.string x) := hc 0 (by omega)
        rw [rootL_one]
        clear ih hP hF hlen hn hc
        go_enter Tryd.func25, Tryd.ntmps25
        go_wp2_with fail
        go_ret
        exact ⟨rfl, Below.refl _ _⟩
    · have hk := cutN_lt hn
      have hk0 := cutN_pos n
      have hcap := hP.cap
      have htop := hP.top
      obtain ⟨hz1, hz2⟩ := fit_node hF (cutN n)
      rw [rootL_cut l (by omega), hlen]
      obtain ⟨blk, off, rfl, _⟩ := hP.at_ (by omega)
      have hC := power_any n
      have hL := fun w' (hb : Below w.heap.size w w') => ih (cutN n) hk (l.take (cutN n)) _ c w' ((hP.here hb).take (by omega)) (hF.take _)
      have hR := fun w' (hb : Below w.heap.size w w') => ih (n - cutN n) (by omega) (l.drop (cutN n)) _ (c - cutN n) w' ((hP.here hb).drop (by omega)) (hF.drop _)
      obtain ⟨x, hx⟩ : ∃ x, rootL (l.take (cutN n)) = x := ⟨_, rfl⟩
      obtain ⟨y, hy⟩ : ∃ y, rootL (l.drop (cutN n)) = y := ⟨_, rfl⟩
      rw [hx] at hL hz1 ⊢
      rw [hy] at hR hz2 ⊢
      have hN := fun w' => rnode_any x y w' (by omega) (by omega)
      obtain ⟨k, hkk⟩ : ∃ k, cutN n = k := ⟨_, rfl⟩
      rw [hkk] at hk hk0 hC hL hR
      have hCk := hC w hn (by omega)
      clear hC hx hy hz1 hz2 hkk ih hF hP hlen
      go_enter Tryd.func25, Tryd.ntmps25
      go_wp2_with fail
      refine hCk.mono ?_
      rintro e w3 ⟨rfl, rfl⟩
      clear hCk
      go_wp2_with fail
      refine region_quiet (fun w' => Below w3.heap.size w3 w') (by kernel_rfl) (by kernel_rfl) (dB _) ?_
      repeat (go_big_quiet_step (first | exact fun _ => rfl | rfl))
      refine quiet_call rfl (.string x) (fun w' hw' => bel_call (hL w' hw') hw') (fun w' _ => by go_simp) ?_
      simp only [Act.put, List.setIfInBounds_toArray, List.set_cons_succ, List.set_cons_zero]
      repeat (go_big_quiet_step (first | exact fun _ => rfl | rfl))
      refine quiet_call rfl (.string y) (fun w' hw' => bel_call (hR w' hw') hw') (fun w' _ => by go_simp) ?_
      simp only [Act.put, List.setIfInBounds_toArray, List.set_cons_succ, List.set_cons_zero]
      repeat (go_big_quiet_step (first | exact fun _ => rfl | rfl))
      refine quiet_call rfl (.string (nodeH x y)) (fun w' hw' => bel_call (hN w') hw') (fun w' _ => by go_simp) ?_
      simp only [Act.put, List.setIfInBounds_toArray, List.set_cons_succ, List.set_cons_zero]
      repeat (go_big_quiet_step (first | exact fun _ => rfl | rfl))
      refine wpQuiet_nil ?_
      clear hL hR hN
      intro w7 hw7
      go_wp2_with fail
      go_ret
      exact ⟨rfl, hw7⟩
end Go.Proofs.YtlkopllpadhnlaaDoor

namespace Go.Proofs.YtlkopllpadhnlaaDoor
open Go Go.RowKit

theorem info_s : (Tryd.prog.info? 9).map (fun i => (i.zero, i.size, i.bytes)) = some (some (.string ⟨#[]⟩), 1, 16) := by kernel_rfl
/-- v owns a row of these texts, in a block from B on. -/
def TxR (B : Nat) (w : World) (v : Value) (ids : List ByteArray) : Prop := w.ownsRow B 9 1 v ids.length (ids.map Value.string)
theorem TxR.shape {B : Nat} {w : World} {v : Value} {ids : List ByteArray} (h : TxR B w v ids) : ∃ a c, v = .slice a ids.length c := by
  obtain ⟨_, ⟨rfl, h0⟩ | ⟨g, cap, cur, rfl, _⟩⟩ := h
  · exact ⟨none, 0, by rw [h0]⟩
  · exact ⟨_, _, rfl⟩
theorem TxR.parts {B : Nat} {w : World} {v : Value} {ids : List ByteArray} (h : TxR B w v ids) : PartsAt w v ids := by
  have hh := h
  obtain ⟨hx, ⟨rfl, h0⟩ | ⟨g, cap, cur, rfl, b1, hg, b2⟩⟩ := h
  · obtain rfl : ids = [] := List.length_eq_zero_iff.1 h0
    exact ⟨none, 0, rfl, fun h => absurd h (Nat.lt_irrefl 0)⟩
  · refine ⟨_, cap, rfl, fun h0 => ⟨g, 0, rfl, (Array.getElem?_eq_some_iff.1 hg).1, fun i hi => ?_⟩⟩
    have := World.ownsRow.cells (g := g) hh rfl i (.string (ids.getD i ByteArray.empty)) (by simp [hi, List.getD])
    have hadd : (⟨g, 0, none⟩ : Addr).add i = ⟨g, 0 + i, none⟩ := by unfold Addr.add; split <;> simp_all
    rw [hadd] at this; exact this
theorem TxR.here {B : Nat} {w w' : World} {v : Value} {ids : List ByteArray} (h : TxR B w v ids) (hb : Below w.heap.size w w') : TxR B w' v ids := by
  obtain ⟨hx, h0 | ⟨g, cap, cur, rfl, b1, hg, b2⟩⟩ := h
  · exact ⟨hx, .inl h0⟩
  · exact ⟨hx, .inr ⟨g, cap, cur, rfl, b1, (hb.block g (Array.getElem?_eq_some_iff.1 hg).1).trans hg, b2⟩⟩
theorem TxR.base {B C : Nat} {w : World} {v : Value} {ids : List ByteArray} (h : TxR B w v ids) (hC : C ≤ B) : TxR C w v ids := by
  obtain ⟨hx, h0 | ⟨g, cap, cur, rfl, b1, hg, b2⟩⟩ := h
  · exact ⟨hx, .inl h0⟩
  · exact ⟨hx, .inr ⟨g, cap, cur, rfl, Nat.le_trans hC b1, hg, b2⟩⟩
/-- What an append of texts leaves. -/
structure PushedT (B : Nat) (w : World) (v : Value) (ids : List ByteArray) (v' : Value) (w' : World) : Prop where
  row : TxR B w' v' ids
  chg : Pk.Chg (fun i => v.ownBlock = some i) w w'
  place : ∀ k, v'.ownBlock = some k → v.ownBlock = some k ∨ w.heap.size ≤ k
theorem TxR.own {B : Nat} {w : World} {v : Value} {ids : List ByteArray} (h : TxR B w v ids) (k : Nat) (hk : v.ownBlock = some k) : B ≤ k ∧ k < w.heap.size := World.ownsRow.lt h k hk
theorem TxR.of_row {B : Nat} {w : World} {v : Value} {ids : List ByteArray} (h : Pk.Row w 9 1 v ids.length (ids.map Value.string)) (hB : ∀ k, v.ownBlock = some k → B ≤ k) : TxR B w v ids := by
  obtain ⟨hx, h0 | ⟨g, cap, cur, rfl, b1, b2⟩⟩ := h
  · exact ⟨hx, .inl h0⟩
  · exact ⟨hx, .inr ⟨g, cap, cur, rfl, hB g rfl, b2⟩⟩
theorem push_texts (B : Nat) (w : World) (ty : TypeId) (v : Value) (ids zs : List ByteArray) (h : TxR B w v ids) (hB : B ≤ w.heap.size) (a : Option Addr) (m c : Nat) (hm : zs.length = m) (hz : PartsAt w (.slice a m c) zs) (hlen : (ids.length + m) * 16 ≤ 140737488355328) :
    ∃ v' w', (Builtin.append_ #[36, 36] ty #[v, .slice a m c]).run Tryd.prog w = .ok v' w' ∧ PushedT B w v (ids ++ zs) v' w' := by
  obtain ⟨i0, hi, hz0, hz1, hz2⟩ := info_parts info_s
  subst hm
  obtain ⟨a2, c2, e2, hh⟩ := hz.ex
  cases e2
  by_cases h0 : 0 < zs.length
  · obtain ⟨blk, off, rfl, hb, hc⟩ := hh h0
    obtain ⟨v', w', hr, hp⟩ := Pk.push_row (P := Tryd.prog) w 36 ty 9 i0 (.string ⟨#[]⟩) 1 16 Tryd.underlying36 hi hz0 hz1 hz2 rfl (by decide) v ids.length (ids.map Value.string) (TxR.base h (Nat.zero_le _)) ⟨blk, off, none⟩ zs.length c (zs.map Value.string) (by simp)
      (fun j u hj => by
        have hjl : j < zs.length := by
          rcases Nat.lt_or_ge j zs.length with h | h
          · exact h
          · rw [List.getElem?_eq_none (by simpa using h)] at hj; cases hj
        have hadd : (⟨blk, off, none⟩ : Addr).add j = ⟨blk, off + j, none⟩ := by
          unfold Addr.add
          split
          · next h => subst h; rfl
          · rfl
        rw [hadd, hc j hjl, ← hj]
        simp [List.getD, hjl])
      (fun u hu => by simp only [List.mem_map] at hu; obtain ⟨y, _, rfl⟩ := hu; rfl) (by unfold maxLen; omega) hlen
    refine ⟨v', w', hr, ⟨TxR.of_row (by rw [List.length_append, List.map_append]; exact hp.row) fun k hk => ?_, hp.chg, hp.place⟩⟩
    rcases hp.place k hk with h1 | h1
    · exact (h.own k h1).1
    · omega
  · obtain rfl : zs = [] := List.length_eq_zero_iff.1 (by omega)
    obtain ⟨a3, c3, rfl⟩ := h.shape
    have hle : ids.length ≤ c3 := by
      obtain ⟨_, ⟨h1, h2⟩ | ⟨g, cap, cur, h1, _, _, h3, _⟩⟩ := h
      · omega
      · cases h1; exact h3
    have hs : Src Tryd.prog i0.size 36 (.slice a 0 c) 0 [] w := by
      cases a with
      | none => exact Src.ofNil w Tryd.underlying36 c
      | some ad => exact Src.ofSlice w Tryd.underlying36 ad 0 c [] (by simp) (fun j u hu => by simp at hu) (fun u hu => by cases hu)
    have hr := run_append_nothing (P := Tryd.prog) w 36 36 ty 9 i0 Tryd.underlying36 hi a3 ids.length c3 hle (.slice a 0 c) hs
    exact ⟨_, w, hr, ⟨by rw [List.append_nil]; exact h, Pk.Chg.refl _ _, fun k hk => .inl hk⟩⟩
section
variable {w : World} {o : Oper} {a : Act} {Q : Exit → Act → World → Prop}
theorem wp_pushT {K : Act → World → Prop} (s x : Operand) (ho : o.op = .call { callee := .builtin .append, args := #[s, x], argTypes := #[36, 36] }) (B : Nat) (v : Value) (ids zs : List ByteArray) (hs : a.eval s = v)
    (h : TxR B w v ids) (hB : B ≤ w.heap.size) (ad : Option Addr) (m c : Nat) (hx : a.eval x = .slice ad m c) (hm : zs.length = m) (hz : PartsAt w (.slice ad m c) zs) (hlen : (ids.length + m) * 16 ≤ 140737488355328)
    (k : ∀ v' w', PushedT B w v (ids ++ zs) v' w' → K (a.put o.dst v') w') : o.wp Tryd.prog a w K Q := by
  obtain ⟨v', w', hr, hp⟩ := push_texts B w o.type v ids zs h hB ad m c hm hz hlen
  unfold Oper.wp execOp
  simp only [ho, resolve, invoke, builtin, Sem.run_bind, Sem.run_pure, Result.andThen_ok, List.map_toArray, List.map_cons, List.map_nil, hs, hx, hr]
  exact k _ _ hp
theorem wpList_pushT {ops : Array Oper} {rest : List Oper} (hgd : o.guard = none) (s x : Operand) (ho : o.op = .call { callee := .builtin .append, args := #[s, x], argTypes := #[36, 36] }) (B : Nat) (v : Value) (ids zs : List ByteArray) (hs : a.eval s = v)
    (h : TxR B w v ids) (hB : B ≤ w.heap.size) (ad : Option Addr) (m c : Nat) (hx : a.eval x = .slice ad m c) (hm : zs.length = m) (hz : PartsAt w (.slice ad m c) zs) (hlen : (ids.length + m) * 16 ≤ 140737488355328)
    (k : ∀ v' w', PushedT B w v (ids ++ zs) v' w' → wpList Tryd.prog ops Q rest (a.put o.dst v') w') : wpList Tryd.prog ops Q (o :: rest) a w :=
  wpList_plain hgd fun _ hK => wp_pushT s x ho B v ids zs hs h hB ad m c hx hm hz hlen fun v' w' hp => hK _ _ (k v' w' hp)
end
theorem TxR.nil (B : Nat) (w : World) : TxR B w (.slice none 0 0) [] := World.ownsRow_nil _ _ _ _
theorem PushedT.below {B : Nat} {w w' : World} {v v' : Value} {ids zs : List ByteArray} (hp : PushedT B w v zs v' w') (h : TxR B w v ids) : Pk.Chg (fun i => B ≤ i) w w' := hp.chg.mono fun i _ e => (h.own i e).1
theorem PushedT.bel {w0 w w' : World} {v v' : Value} {ids zs : List ByteArray} (hp : PushedT w0.heap.size w v zs v' w') (hB : Below w0.heap.size w0 w) (h : TxR w0.heap.size w v ids) : Below w0.heap.size w0 w' := hB.trans ((hp.below h).below hB.size fun _ h => h)
theorem TxR.chg {S : Nat → Prop} {B : Nat} {w w' : World} {v : Value} {ids : List ByteArray} (h : TxR B w v ids) (hc : Pk.Chg S w w') (hn : ∀ k, v.ownBlock = some k → ¬ S k) : TxR B w' v ids := by
  obtain ⟨hx, h0 | ⟨g, cap, cur, rfl, b1, hg, b2⟩⟩ := h
  · exact ⟨hx, .inl h0⟩
  · exact ⟨hx, .inr ⟨g, cap, cur, rfl, b1, (hc.block g (Array.getElem?_eq_some_iff.1 hg).1 (hn g rfl)).trans hg, b2⟩⟩
end Go.Proofs.YtlkopllpadhnlaaDoor

namespace Go.Proofs.YtlkopllpadhnlaaDoor
open Go Go.RowKit

theorem half_le {n d : Nat} (h2 : 2 ≤ n) (hd : n ≤ 2 ^ (d + 1)) : cutN n ≤ 2 ^ d ∧ n - cutN n ≤ 2 ^ d := by
  have h1 := cutN_lt h2
  have h3 := cutN_ge n
  have : cutN n ≤ 2 ^ d := by
    unfold cutN at h1 ⊢
    have : (n - 1).log2 < d + 1 := (Nat.pow_lt_pow_iff_right (a := 2) (by decide)).1 (Nat.lt_of_lt_of_le h1 hd)
    exact Nat.pow_le_pow_right (by decide) (by omega)
  omega
theorem placeL_len : ∀ (d : Nat) (l : List ByteArray) (i : Nat), l.length ≤ 2 ^ d → (placeL l i).length ≤ d
  | 0, l, i, h => by rw [placeL_one l (by simpa using h)]; exact Nat.le_refl _
  | d + 1, l, i, h => by
    by_cases h2 : 2 ≤ l.length
    · obtain ⟨h3, h4⟩ := half_le h2 h
      by_cases hi : i < cutN l.length
      · rw [placeL_left l h2 i hi, List.length_append, List.length_singleton]
        have := placeL_len d (l.take (cutN l.length)) i (by simp; omega)
        omega
      · rw [placeL_right l h2 i (by omega), List.length_append, List.length_singleton]
        have := placeL_len d (l.drop (cutN l.length)) (i - cutN l.length) (by simp; omega)
        omega
    · rw [placeL_one l (by omega)]; exact Nat.zero_le _
theorem placeL_63 {l : List ByteArray} (h : l.length ≤ 9223372036854775807) (i : Nat) : (placeL l i).length ≤ 63 := placeL_len 63 l i (by omega)
/-- What a call that makes a row of texts answers. -/
def Rows_ (w : World) (ps : List ByteArray) (e : Ending) (w' : World) : Prop := ∃ v, e = .returned v ∧ TxR w.heap.size w' v ps ∧ Below w.heap.size w w'

end Go.Proofs.YtlkopllpadhnlaaDoor

namespace Go.Proofs.YtlkopllpadhnlaaDoor
open Go Go.RowKit

set_option maxHeartbeats 1600000 in
set_option maxRecDepth 100000 in
theorem rplace_any : ∀ (n : Nat) (l : List ByteArray) (i : Nat) (a : Option Addr) (c : Nat) (w : World), PA w a n c l → Fit l → i < n →
    Calls Tryd.prog 50 #[.slice a n c, .int .i64 (i : Int)] w (Rows_ w (placeL l i)) := by
  intro n
  induction n using Nat.strongRecOn with
  | ind n ih =>
    intro l i a c w hP hF hi
    have hlen := hP.len
    rcases Nat.lt_or_ge n 2 with hn | hn
    · obtain rfl : n = 1 := by omega
      rw [placeL_one l (by omega)]
      clear ih hP hF hlen hn hi
      go_enter Tryd.func50, Tryd.ntmps50
      go_wp2_with fail
      go_ret
      exact ⟨_, rfl, TxR.nil _ _, Below.refl _ _⟩
    · have hk := cutN_lt hn
      have hk0 := cutN_pos n
      have hcap := hP.cap
      have htop := hP.top
      obtain ⟨hz1, hz2⟩ := fit_node hF (cutN n)
      obtain ⟨blk, off, rfl, _⟩ := hP.at_ (by omega)
      have hC := power_any n w hn (by omega)
      have hPl := placeL_63 (l := l) (by omega) i
      have hT := fun w' (hb : Below w.heap.size w w') => rroot_any (cutN n) (l.take (cutN n)) _ c w' ((hP.here hb).take (by omega)) (hF.take _)
      have hD := fun w' (hb : Below w.heap.size w w') => rroot_any (n - cutN n) (l.drop (cutN n)) _ (c - cutN n) w' ((hP.here hb).drop (by omega)) (hF.drop _)
      have hL := fun (hik : i < cutN n) w' (hb : Below w.heap.size w w') => ih (cutN n) hk (l.take (cutN n)) i _ c w' ((hP.here hb).take (by omega)) (hF.take _) hik
      have hR := fun (hik : cutN n ≤ i) w' (hb : Below w.heap.size w w') => ih (n - cutN n) (by omega) (l.drop (cutN n)) (i - cutN n) _ (c - cutN n) w' ((hP.here hb).drop (by omega)) (hF.drop _) (by omega)
      have hl1 := placeL_left l (by omega) i
      have hl2 := placeL_right l (by omega) i
      rw [hlen] at hl1 hl2
      obtain ⟨x, hx⟩ : ∃ x, rootL (l.take (cutN n)) = x := ⟨_, rfl⟩
      obtain ⟨y, hy⟩ : ∃ y, rootL (l.drop (cutN n)) = y := ⟨_, rfl⟩
      rw [hx] at hT hl2 hz1
      rw [hy] at hD hl1 hz2
      obtain ⟨k, hkk⟩ : ∃ k, cutN n = k := ⟨_, rfl⟩
      rw [hkk] at hk hk0 hC hL hR hl1 hl2 hT hD
      clear hx hy hz1 hz2 hkk ih hF hP hlen
      by_cases hik : i < k
      · have hik2 : (i : Int) < (k : Int) := by omega
        replace hL := hL hik
        replace hl1 := hl1 hik
        obtain ⟨O, hO⟩ : ∃ O, placeL (l.take k) i = O := ⟨_, rfl⟩
        rw [hO] at hL hl1
        rw [hl1] at hPl ⊢
        clear hT hR hl2 hO hl1
        replace hPl := Box.mk hPl
        go_enter Tryd.func50, Tryd.ntmps50
        go_wp2_with fail
        refine hC.mono ?_
        rintro e w3 ⟨rfl, rfl⟩
        clear hC
        go_wp2_with fail
        have hd := dB w3
        refine region_go (C := fun _ => True) rfl ?_
        generalize w3.drew = wd at *
        refine go_calms [0, 1, 2, 3, 5, 6, 7] 5 rfl (by kernel_rfl) (by kernel_rfl) (by kernel_rfl) trivial ?_
        simp [nth]
        try simp only [Act.put, List.setIfInBounds_toArray, List.set_cons_succ, List.set_cons_zero]
        repeat (go_big_quiet_step (first | exact fun _ => rfl | rfl))
        refine wpQuiet_nil ?_
        replace hL := hL wd hd
        refine go_forced 4 (by kernel_rfl) (goOp_wp 4 rfl rfl (fun K hK => ?_))
        go_simp
        refine hL.mono ?_
        rintro e w8 ⟨v8, rfl, hT8, hB8⟩
        replace hB8 := Box.mk (mono_bel hd hB8 (Nat.le_refl _))
        replace hT8 := Box.mk (hT8.base hd.size)
        replace hD := hD w8 hB8.out
        refine hK _ _ trivial ?_
        clear hK K hL hd
        try simp only [Act.put, List.setIfInBounds_toArray, List.set_cons_succ, List.set_cons_zero]
        refine go_forced 8 (by kernel_rfl) (goOp_wp 8 rfl rfl (fun K hK => ?_))
        go_simp
        refine hD.mono ?_
        rintro e w9 ⟨rfl, hb9⟩
        replace hT8 := Box.mk (hT8.out.here hb9)
        replace hB8 := Box.mk (mono_bel hB8.out hb9 (Nat.le_refl _))
        refine hK _ _ trivial ?_
        clear hK K hD hb9
        try simp only [Act.put, List.setIfInBounds_toArray, List.set_cons_succ, List.set_cons_zero]
        refine go_forced 9 (by kernel_rfl) (goOp_wp 9 rfl rfl (fun K hK => ?_))
        go_simp
        refine hK _ _ trivial ?_
        clear hK K
        try simp only [Act.put, List.setIfInBounds_toArray, List.set_cons_succ, List.set_cons_zero]
        refine go_forced 10 (by kernel_rfl) (goOp_wp 10 rfl rfl (fun K hK => ?_))
        refine wp_pushT (.tmp 19) (.tmp 24) rfl w3.heap.size v8 O [y] rfl (hT8.out.here (bel_alloc _ _)) (by have := hB8.out.size; simp; omega) (some ⟨w9.heap.size, 0, none⟩) 1 1 rfl rfl (parts_new w9 [y] 9) (by have := hPl.out; simp at this; omega) ?_
        rintro v10 w10 hp
        have hB10 := Box.mk (hp.bel (mono_bel hB8.out (bel_alloc _ _) (Nat.le_refl _)) (hT8.out.here (bel_alloc _ _)))
        have hT10 := Box.mk hp.row
        refine hK _ _ trivial ?_
        clear hK K hp hB8 hT8
        try simp only [Act.put, List.setIfInBounds_toArray]
        refine go_calms [11] 0 rfl (by kernel_rfl) (by kernel_rfl) (by kernel_rfl) trivial ?_
        simp [nth]
        try simp only [Act.put, List.setIfInBounds_toArray, List.set_cons_succ, List.set_cons_zero]
        repeat (go_big_quiet_step (first | exact fun _ => rfl | rfl))
        refine wpQuiet_nil ?_
        refine go_done (by kernel_rfl) ?_
        go_simp
        go_wp2_with fail
        go_ret
        exact ⟨_, rfl, hT10.out, hB10.out⟩
      · have hik2 : ¬ (i : Int) < (k : Int) := by omega
        have hki : k ≤ i := by omega
        have hsub : (i : Int) - (k : Int) = ((i - k : Nat) : Int) := by omega
        replace hR := hR hki
        replace hl2 := hl2 hki
        obtain ⟨O, hO⟩ : ∃ O, placeL (l.drop k) (i - k) = O := ⟨_, rfl⟩
        rw [hO] at hR hl2
        rw [hl2] at hPl ⊢
        rw [← hsub] at hR
        clear hD hL hl1 hO hl2 hki hik hsub
        replace hPl := Box.mk hPl
        go_enter Tryd.func50, Tryd.ntmps50
        go_wp2_with fail
        refine hC.mono ?_
        rintro e w3 ⟨rfl, rfl⟩
        clear hC
        go_wp2_with fail
        have hd := dB w3
        refine region_go (C := fun _ => True) rfl ?_
        generalize w3.drew = wd at *
        refine go_calms [0, 1, 2, 3, 4, 5, 7, 8, 9] 5 rfl (by kernel_rfl) (by kernel_rfl) (by kernel_rfl) trivial ?_
        simp [nth]
        try simp only [Act.put, List.setIfInBounds_toArray, List.set_cons_succ, List.set_cons_zero]
        repeat (go_big_quiet_step (first | exact fun _ => rfl | rfl))
        refine wpQuiet_nil ?_
        replace hR := hR wd hd
        refine go_forced 6 (by kernel_rfl) (goOp_wp 6 rfl rfl (fun K hK => ?_))
        go_simp
        refine hR.mono ?_
        rintro e w8 ⟨v8, rfl, hT8, hB8⟩
        replace hB8 := Box.mk (mono_bel hd hB8 (Nat.le_refl _))
        replace hT8 := Box.mk (hT8.base hd.size)
        replace hT := hT w8 hB8.out
        refine hK _ _ trivial ?_
        clear hK K hR hd
        try simp only [Act.put, List.setIfInBounds_toArray, List.set_cons_succ, List.set_cons_zero]
        refine go_forced 10 (by kernel_rfl) (goOp_wp 10 rfl rfl (fun K hK => ?_))
        go_simp
        refine hT.mono ?_
        rintro e w9 ⟨rfl, hb9⟩
        replace hT8 := Box.mk (hT8.out.here hb9)
        replace hB8 := Box.mk (mono_bel hB8.out hb9 (Nat.le_refl _))
        refine hK _ _ trivial ?_
        clear hK K hT hb9
        try simp only [Act.put, List.setIfInBounds_toArray, List.set_cons_succ, List.set_cons_zero]
        refine go_forced 11 (by kernel_rfl) (goOp_wp 11 rfl rfl (fun K hK => ?_))
        go_simp
        refine hK _ _ trivial ?_
        clear hK K
        try simp only [Act.put, List.setIfInBounds_toArray, List.set_cons_succ, List.set_cons_zero]
        refine go_forced 12 (by kernel_rfl) (goOp_wp 12 rfl rfl (fun K hK => ?_))
        refine wp_pushT (.tmp 32) (.tmp 37) rfl w3.heap.size v8 O [x] rfl (hT8.out.here (bel_alloc _ _)) (by have := hB8.out.size; simp; omega) (some ⟨w9.heap.size, 0, none⟩) 1 1 rfl rfl (parts_new w9 [x] 9) (by have := hPl.out; simp at this; omega) ?_
        rintro v10 w10 hp
        have hB10 := Box.mk (hp.bel (mono_bel hB8.out (bel_alloc _ _) (Nat.le_refl _)) (hT8.out.here (bel_alloc _ _)))
        have hT10 := Box.mk hp.row
        refine hK _ _ trivial ?_
        clear hK K hp hB8 hT8
        try simp only [Act.put, List.setIfInBounds_toArray]
        refine go_calms [13] 0 rfl (by kernel_rfl) (by kernel_rfl) (by kernel_rfl) trivial ?_
        simp [nth]
        try simp only [Act.put, List.setIfInBounds_toArray, List.set_cons_succ, List.set_cons_zero]
        repeat (go_big_quiet_step (first | exact fun _ => rfl | rfl))
        refine wpQuiet_nil ?_
        refine go_done (by kernel_rfl) ?_
        go_simp
        go_wp2_with fail
        go_ret
        exact ⟨_, rfl, hT10.out, hB10.out⟩
end Go.Proofs.YtlkopllpadhnlaaDoor

namespace Go.Proofs.YtlkopllpadhnlaaDoor
open Go Go.RowKit

def incL (l : List ByteArray) (z : Int) : List ByteArray := if 0 ≤ z ∧ z < (l.length : Int) then placeL l z.toNat else []
def incE (l : List ByteArray) (z : Int) : Int := if 0 ≤ z ∧ z < (l.length : Int) then 0 else 1
/-- What a call that makes a row of texts, or an error, answers. -/
def RowsE (w : World) (ps : List ByteArray) (er : Int) (e : Ending) (w' : World) : Prop := ∃ v, e = .returned (.tuple #[v, .int .i64 er]) ∧ TxR w.heap.size w' v ps ∧ Below w.heap.size w w'
set_option maxHeartbeats 1600000 in
set_option maxRecDepth 100000 in
theorem rinclusion_any (n : Nat) (l : List ByteArray) (z : Int) (a : Option Addr) (c : Nat) (w : World) (hP : PA w a n c l) (hF : Fit l) :
    Calls Tryd.prog 22 #[.slice a n c, .int .i64 z] w (RowsE w (incL l z) (incE l z)) := by
  have hlen := hP.len
  unfold incL incE
  rw [hlen]
  by_cases h : 0 ≤ z ∧ z < (n : Int)
  · rw [if_pos h, if_pos h]
    obtain ⟨i, rfl⟩ : ∃ i : Nat, z = i := ⟨z.toNat, by omega⟩
    have hC := rplace_any n l i a c w hP hF (by omega)
    rw [Int.toNat_natCast]
    obtain ⟨O, hO⟩ : ∃ O, placeL l i = O := ⟨_, rfl⟩
    rw [hO] at hC ⊢
    clear hP hF hO hlen
    have h1 : ¬ ((i : Int) < 0) := by omega
    have h2 : ¬ ((i : Int) ≥ (n : Int)) := by omega
    go_enter Tryd.func22, Tryd.ntmps22
    go_wp2_with fail
    refine hC.mono ?_
    rintro e w8 ⟨v8, rfl, hT8, hB8⟩
    clear hC
    obtain ⟨a8, c8, e8⟩ := hT8.shape
    subst e8
    go_wp2_with fail
    go_returns
    exact ⟨_, rfl, hT8, hB8⟩
  · rw [if_neg h, if_neg h]
    clear hP hF hlen
    by_cases h0 : z < 0
    · go_enter Tryd.func22, Tryd.ntmps22
      go_wp2_with fail
      go_returns
      exact ⟨_, rfl, TxR.nil _ _, Below.refl _ _⟩
    · have h1 : z ≥ (n : Int) := by omega
      go_enter Tryd.func22, Tryd.ntmps22
      go_wp2_with fail
      go_returns
      exact ⟨_, rfl, TxR.nil _ _, Below.refl _ _⟩
end Go.Proofs.YtlkopllpadhnlaaDoor
