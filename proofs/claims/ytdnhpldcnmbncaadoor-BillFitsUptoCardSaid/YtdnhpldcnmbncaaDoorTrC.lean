/- Walks of tree.Root and of the document's Root. -/
import Derived.Test.YtdnhpldcnmbncaaDoorTrB
namespace Go.Proofs.YtdnhpldcnmbncaaDoor
open Go Go.RowKit

theorem fit_node {l : List ByteArray} (h : Fit l) (k : Nat) : (rootL (l.take k)).size ≤ 70000000000000 ∧ (rootL (l.drop k)).size ≤ 70000000000000 := ⟨root_size _ (h.take k), root_size _ (h.drop k)⟩
/-- A call that changes nothing that was there, told from an earlier world. -/
theorem bel_call {f : FuncId} {args : Array Value} {w0 w : World} {v : Value} (h : Calls Tryd.prog f args w fun e w' => e = .returned v ∧ Below w.heap.size w w') (hb : Below w0.heap.size w0 w) :
    Calls Tryd.prog f args w fun e w' => e = .returned v ∧ Below w0.heap.size w0 w' := h.mono fun _ _ h2 => ⟨h2.1, mono_bel hb h2.2 (Nat.le_refl _)⟩
set_option maxHeartbeats 1600000 in
set_option maxRecDepth 100000 in
theorem root_any : ∀ (n : Nat) (l : List ByteArray) (a : Option Addr) (c : Nat) (w : World), PA w a n c l → KIs w → Fit l →
    Calls Tryd.prog 32 #[.slice a n c] w fun e w' => e = .returned (.string (rootL l)) ∧ Below w.heap.size w w' := by
  intro n
  induction n using Nat.strongRecOn with
  | ind n ih =>
    intro l a c w hP hK hF
    have hlen := hP.len
    rcases Nat.lt_or_ge n 2 with hn | hn
    · rcases Nat.eq_zero_or_pos n with h0 | h0
      · subst h0
        obtain rfl : l = [] := List.length_eq_zero_iff.1 hlen
        have hS := sum_parts (.slice none 0 0) [] w ⟨none, 0, rfl, fun h => absurd h (Nat.lt_irrefl 0)⟩ hK (by simp [flat]) (by simp)
        rw [show hashOf (flat []) = noneH from rfl, ← rootL_nil] at hS
        clear ih hP hK hF hlen hn
        go_enter Tryd.func32, Tryd.ntmps32
        go_wp2_with fail
        refine hS.mono ?_
        rintro e w3 ⟨rfl, hb3⟩
        clear hS
        go_wp2_with fail
        go_ret
        exact ⟨rfl, hb3⟩
      · obtain rfl : n = 1 := by omega
        obtain ⟨blk, off, rfl, hl, hc⟩ := hP.at_ (by omega)
        obtain ⟨x, rfl⟩ : ∃ x, l = [x] := List.length_eq_one_iff.1 hlen
        have h0 : w.cell? ⟨blk, off, none⟩ = some (.string x) := hc 0 (by omega)
        rw [rootL_one]
        clear ih hP hK hF hlen hn hc
        go_enter Tryd.func32, Tryd.ntmps32
        go_wp2_with fail
        go_ret
        exact ⟨rfl, Below.refl _ _⟩
    · have hk := cutN_lt hn
      have hk0 := cutN_pos n
      have hcap := hP.cap
      have htop := hP.top
      obtain ⟨hz1, hz2⟩ := fit_node hF (cutN n)
      rw [rootL_cut l (by omega), hlen]
      obtain ⟨blk, off, rfl, _⟩ := hP.at_ (by omega)
      have hC := cut_any n
      have hL := fun w' (hb : Below w.heap.size w w') => ih (cutN n) hk (l.take (cutN n)) _ c w' ((hP.here hb).take (by omega)) (hK.below hb hK.lt) (hF.take _)
      have hR := fun w' (hb : Below w.heap.size w w') => ih (n - cutN n) (by omega) (l.drop (cutN n)) _ (c - cutN n) w' ((hP.here hb).drop (by omega)) (hK.below hb hK.lt) (hF.drop _)
      obtain ⟨x, hx⟩ : ∃ x, rootL (l.take (cutN n)) = x := ⟨_, rfl⟩
      obtain ⟨y, hy⟩ : ∃ y, rootL (l.drop (cutN n)) = y := ⟨_, rfl⟩
      rw [hx] at hL hz1 ⊢
      rw [hy] at hR hz2 ⊢
      have hN := fun w' (hb : Below w.heap.size w w') => tnode_any x y w' (hK.below hb hK.lt) (by omega) (by omega)
      obtain ⟨k, hkk⟩ : ∃ k, cutN n = k := ⟨_, rfl⟩
      rw [hkk] at hk hk0 hC hL hR
      have hCk := hC w hn (by omega)
      clear hC hx hy hz1 hz2 hkk ih hF hP hlen
      go_enter Tryd.func32, Tryd.ntmps32
      go_wp2_with fail
      refine hCk.mono ?_
      rintro e w3 ⟨rfl, rfl⟩
      clear hCk
      go_wp2_with fail
      refine region_quiet (fun w' => Below w3.heap.size w3 w') (by kernel_rfl) (by kernel_rfl) (dB _) ?_
      repeat (go_big_quiet_step (first | exact fun _ => rfl | rfl))
      refine quiet_call rfl (.string x) (fun w' hw' => bel_call (hL w' hw') hw') (fun w' _ => by go_simp) ?_
      simp only [Act.put, List.setIfInBounds_toArray, List.set_cons_succ, List.set_cons_zero]
      repeat (go_big_quiet_step (first | exact fun _ => rfl | rfl))
      refine quiet_call rfl (.string y) (fun w' hw' => bel_call (hR w' hw') hw') (fun w' _ => by go_simp) ?_
      simp only [Act.put, List.setIfInBounds_toArray, List.set_cons_succ, List.set_cons_zero]
      repeat (go_big_quiet_step (first | exact fun _ => rfl | rfl))
      refine quiet_call rfl (.string (nodeH x y)) (fun w' hw' => bel_call (hN w' hw') hw') (fun w' _ => by go_simp) ?_
      simp only [Act.put, List.setIfInBounds_toArray, List.set_cons_succ, List.set_cons_zero]
      repeat (go_big_quiet_step (first | exact fun _ => rfl | rfl))
      refine wpQuiet_nil ?_
      clear hL hR hN
      intro w7 hw7
      go_wp2_with fail
      go_ret
      exact ⟨rfl, hw7⟩
set_option maxHeartbeats 1600000 in
set_option maxRecDepth 100000 in
theorem rroot_any : ∀ (n : Nat) (l : List ByteArray) (a : Option Addr) (c : Nat) (w : World), PA w a n c l → Fit l →
    Calls Tryd.prog 36 #[.slice a n c] w fun e w' => e = .returned (.string (rootL l)) ∧ Below w.heap.size w w' := by
  intro n
  induction n using Nat.strongRecOn with
  | ind n ih =>
    intro l a c w hP hF
    have hlen := hP.len
    rcases Nat.lt_or_ge n 2 with hn | hn
    · rcases Nat.eq_zero_or_pos n with h0 | h0
      · subst h0
        obtain rfl : l = [] := List.length_eq_zero_iff.1 hlen
        have hS := rsum_parts (.slice none 0 0) [] w ⟨none, 0, rfl, fun h => absurd h (Nat.lt_irrefl 0)⟩ (by simp [flat]) (by simp)
        rw [show hashOf (flat []) = noneH from rfl, ← rootL_nil] at hS
        clear ih hP hF hlen hn
        go_enter Tryd.func36, Tryd.ntmps36
        go_wp2_with fail
        refine hS.mono ?_
        rintro e w3 ⟨rfl, hb3⟩
        clear hS
        go_wp2_with fail
        go_ret
        exact ⟨rfl, hb3⟩
      · obtain rfl : n = 1 := by omega
        obtain ⟨blk, off, rfl, hl, hc⟩ := hP.at_ (by omega)
        obtain ⟨x, rfl⟩ : ∃ x, l = [x] := List.length_eq_one_iff.1 hlen
        have h0 : w.cell? ⟨blk, off, none⟩ = some (.string x) := hc 0 (by omega)
        rw [rootL_one]
        clear ih hP hF hlen hn hc
        go_enter Tryd.func36, Tryd.ntmps36
        go_wp2_with fail
        go_ret
        exact ⟨rfl, Below.refl _ _⟩
    · have hk := cutN_lt hn
      have hk0 := cutN_pos n
      have hcap := hP.cap
      have htop := hP.top
      obtain ⟨hz1, hz2⟩ := fit_node hF (cutN n)
      rw [rootL_cut l (by omega), hlen]
      obtain ⟨blk, off, rfl, _⟩ := hP.at_ (by omega)
      have hC := power_any n
      have hL := fun w' (hb : Below w.heap.size w w') => ih (cutN n) hk (l.take (cutN n)) _ c w' ((hP.here hb).take (by omega)) (hF.take _)
      have hR := fun w' (hb : Below w.heap.size w w') => ih (n - cutN n) (by omega) (l.drop (cutN n)) _ (c - cutN n) w' ((hP.here hb).drop (by omega)) (hF.drop _)
      obtain ⟨x, hx⟩ : ∃ x, rootL (l.take (cutN n)) = x := ⟨_, rfl⟩
      obtain ⟨y, hy⟩ : ∃ y, rootL (l.drop (cutN n)) = y := ⟨_, rfl⟩
      rw [hx] at hL hz1 ⊢
      rw [hy] at hR hz2 ⊢
      have hN := fun w' => rnode_any x y w' (by omega) (by omega)
      obtain ⟨k, hkk⟩ : ∃ k, cutN n = k := ⟨_, rfl⟩
      rw [hkk] at hk hk0 hC hL hR
      have hCk := hC w hn (by omega)
      clear hC hx hy hz1 hz2 hkk ih hF hP hlen
      go_enter Tryd.func36, Tryd.ntmps36
      go_wp2_with fail
      refine hCk.mono ?_
      rintro e w3 ⟨rfl, rfl⟩
      clear hCk
      go_wp2_with fail
      refine region_quiet (fun w' => Below w3.heap.size w3 w') (by kernel_rfl) (by kernel_rfl) (dB _) ?_
      repeat (go_big_quiet_step (first | exact fun _ => rfl | rfl))
      refine quiet_call rfl (.string x) (fun w' hw' => bel_call (hL w' hw') hw') (fun w' _ => by go_simp) ?_
      simp only [Act.put, List.setIfInBounds_toArray, List.set_cons_succ, List.set_cons_zero]
      repeat (go_big_quiet_step (first | exact fun _ => rfl | rfl))
      refine quiet_call rfl (.string y) (fun w' hw' => bel_call (hR w' hw') hw') (fun w' _ => by go_simp) ?_
      simp only [Act.put, List.setIfInBounds_toArray, List.set_cons_succ, List.set_cons_zero]
      repeat (go_big_quiet_step (first | exact fun _ => rfl | rfl))
      refine quiet_call rfl (.string (nodeH x y)) (fun w' hw' => bel_call (hN w') hw') (fun w' _ => by go_simp) ?_
      simp only [Act.put, List.setIfInBounds_toArray, List.set_cons_succ, List.set_cons_zero]
      repeat (go_big_quiet_step (first | exact fun _ => rfl | rfl))
      refine wpQuiet_nil ?_
      clear hL hR hN
      intro w7 hw7
      go_wp2_with fail
      go_ret
      exact ⟨rfl, hw7⟩
end Go.Proofs.YtdnhpldcnmbncaaDoor
