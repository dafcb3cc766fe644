/- Walks of math/bits.Len, tree.cut and the document's power. | Walks of tree.Root and of the document's Root. -/
import Derived.Test.YthkfefkcjcgfkaaGreatDoorWtr
import Derived.Test.YthkfefkcjcgfkaaGreatDoorWl1
set_option linter.all false
namespace Go.Proofs.YthkfefkcjcgfkaaGreatDoor
open Go Go.RowKit

theorem bitAux_log : ∀ (f x : Nat), x ≠ 0 → x < 2 ^ f → Lib.bitLenAux f x = x.log2 + 1
  | 0, x, h0, h => by simp at h; omega
  | f + 1, x, h0, h => by
    rw [Lib.bitLenAux, if_neg h0, Nat.log2_def]
    by_cases h2 : 2 ≤ x
    · rw [if_pos h2, bitAux_log f (x / 2) (by omega) (by rw [Nat.pow_succ] at h; omega)]; omega
    · obtain rfl : x = 1 := by omega
      rw [if_neg (by omega)]
      cases f <;> rfl
theorem bit_log (x : Nat) (h0 : x ≠ 0) (h : x < 18446744073709551616) : Lib.bitLen x = x.log2 + 1 := bitAux_log 64 x h0 h
set_option maxHeartbeats 1600000 in
set_option maxRecDepth 100000 in
theorem len_any (x : Nat) (w : World) (h0 : x ≠ 0) (hx : x < 18446744073709551616) :
    Calls Tryz.prog 150 #[.int .u64 (x : Int)] w fun e w' => e = .returned (.int .i64 ((x.log2 + 1 : Nat) : Int)) ∧ w' = w := by
  have hF := Tryz.bits_Len64 (x : Int) w (by omega) (by omega)
  rw [Int.toNat_natCast, bit_log x h0 hx] at hF
  obtain ⟨L, hL⟩ : ∃ L, x.log2 + 1 = L := ⟨_, rfl⟩
  rw [hL] at hF ⊢
  clear h0 hL
  go_enter Tryz.func150, Tryz.ntmps150
  go_wp2_with fail
  refine hF.mono ?_
  rintro e w3 ⟨rfl, rfl⟩
  clear hF
  go_wp2_with fail
  go_ret
  exact ⟨rfl, rfl⟩
set_option maxHeartbeats 1600000 in
set_option maxRecDepth 100000 in
theorem cut_any (n : Nat) (w : World) (h2 : 2 ≤ n) (hn : n ≤ 9223372036854775807) :
    Calls Tryz.prog 133 #[.int .i64 (n : Int)] w fun e w' => e = .returned (.int .i64 ((cutN n : Nat) : Int)) ∧ w' = w := by
  have hF := len_any (n - 1) w (by omega) (by omega)
  have hlt := cutN_lt h2
  have hsm : (n - 1).log2 < 63 := (Nat.log2_lt (by omega)).2 (by omega)
  rw [show ((n - 1 : Nat) : Int) = (n : Int) - 1 by omega] at hF
  unfold cutN at hlt ⊢
  have hw : ∀ L : Nat, 2 ^ L < n → wrap64 ((2 : Int) ^ L) = ((2 ^ L : Nat) : Int) := fun L h => by
    rw [← show ((2 ^ L : Nat) : Int) = (2 : Int) ^ L from Int.natCast_pow 2 L]
    have := Nat.two_pow_pos L
    generalize 2 ^ L = q at *
    unfold wrap64; omega
  replace hw := hw _ hlt
  obtain ⟨L, hL⟩ : ∃ L, (n - 1).log2 = L := ⟨_, rfl⟩
  rw [hL] at hF hsm hw ⊢
  clear hL hlt
  go_enter Tryz.func133, Tryz.ntmps133
  go_wp2_with fail
  refine hF.mono ?_
  rintro e w3 ⟨rfl, rfl⟩
  clear hF
  go_wp2_with fail
  go_ret
  exact ⟨by simp [hw], rfl⟩
end Go.Proofs.YthkfefkcjcgfkaaGreatDoor

namespace Go.Proofs.YthkfefkcjcgfkaaGreatDoor
open Go Go.RowKit

theorem fit_node {l : List ByteArray} (h : Fit l) (k : Nat) : (rootL (l.take k)).size ≤ 70000000000000 ∧ (rootL (l.drop k)).size ≤ 70000000000000 := ⟨root_size _ (h.take k), root_size _ (h.drop k)⟩
/-- A call that changes nothing that was there, told from an earlier world. -/
theorem bel_call {f : FuncId} {args : Array Value} {w0 w : World} {v : Value} (h : Calls Tryz.prog f args w fun e w' => e = .returned v ∧ Below w.heap.size w w') (hb : Below w0.heap.size w0 w) :
    Calls Tryz.prog f args w fun e w' => e = .returned v ∧ Below w0.heap.size w0 w' := h.mono fun _ _ h2 => ⟨h2.1, mono_bel hb h2.2 (Nat.le_refl _)⟩
set_option maxHeartbeats 1600000 in
set_option maxRecDepth 100000 in
theorem root_any : ∀ (n : Nat) (l : List ByteArray) (a : Option Addr) (c : Nat) (w : World), PA w a n c l → KIs w → Fit l →
    Calls Tryz.prog 100 #[.slice a n c] w fun e w' => e = .returned (.string (rootL l)) ∧ Below w.heap.size w w' := by
  intro n
  induction n using Nat.strongRecOn with
  | ind n ih =>
    intro l a c w hP hK hF
    have hlen := hP.len
    rcases Nat.lt_or_ge n 2 with hn | hn
    · rcases Nat.eq_zero_or_pos n with h0 | h0
      · subst h0
        obtain rfl : l = [] := List.length_eq_zero_iff.1 hlen
        have hS := sum_parts (.slice none 0 0) [] w ⟨none, 0, rfl, fun h => absurd h (Nat.lt_irrefl 0)⟩ hK (by simp [flat]) (by simp)
        rw [show hashOf (flat []) = noneH from rfl, ← rootL_nil] at hS
        clear ih hP hK hF hlen hn
        go_enter Tryz.func100, Tryz.ntmps100
        go_wp2_with fail
        refine hS.mono ?_
        rintro e w3 ⟨rfl, hb3⟩
        clear hS
        go_wp2_with fail
        go_ret
        exact ⟨rfl, hb3⟩
      · obtain rfl : n = 1 := by omega
        obtain ⟨blk, off, rfl, hl, hc⟩ := hP.at_ (by omega)
        obtain ⟨x, rfl⟩ : ∃ x, l = [x] := List.length_eq_one_iff.1 hlen
        have h0 : w.cell? ⟨blk, off, none⟩ = some (.string x) := hc 0 (by omega)
        rw [rootL_one]
        clear ih hP hK hF hlen hn hc
        go_enter Tryz.func100, Tryz.ntmps100
        go_wp2_with fail
        go_ret
        exact ⟨rfl, Below.refl _ _⟩
    · have hk := cutN_lt hn
      have hk0 := cutN_pos n
      have hcap := hP.cap
      have htop := hP.top
      obtain ⟨hz1, hz2⟩ := fit_node hF (cutN n)
      rw [rootL_cut l (by omega), hlen]
      obtain ⟨blk, off, rfl, _⟩ := hP.at_ (by omega)
      have hC := cut_any n
      have hL := fun w' (hb : Below w.heap.size w w') => ih (cutN n) hk (l.take (cutN n)) _ c w' ((hP.here hb).take (by omega)) (hK.below hb hK.lt) (hF.take _)
      have hR := fun w' (hb : Below w.heap.size w w') => ih (n - cutN n) (by omega) (l.drop (cutN n)) _ (c - cutN n) w' ((hP.here hb).drop (by omega)) (hK.below hb hK.lt) (hF.drop _)
      obtain ⟨x, hx⟩ : ∃ x, rootL (l.take (cutN n)) = x := ⟨_, rfl⟩
      obtain ⟨y, hy⟩ : ∃ y, rootL (l.drop (cutN n)) = y := ⟨_, rfl⟩
      rw [hx] at hL hz1 ⊢
      rw [hy] at hR hz2 ⊢
      have hN := fun w' (hb : Below w.heap.size w w') => tnode_any x y w' (hK.below hb hK.lt) (by omega) (by omega)
      obtain ⟨k, hkk⟩ : ∃ k, cutN n = k := ⟨_, rfl⟩
      rw [hkk] at hk hk0 hC hL hR
      have hCk := hC w hn (by omega)
      clear hC hx hy hz1 hz2 hkk ih hF hP hlen
      go_enter Tryz.func100, Tryz.ntmps100
      go_wp2_with fail
      refine hCk.mono ?_
      rintro e w3 ⟨rfl, rfl⟩
      clear hCk
      go_wp2_with fail
      refine region_quiet (fun w' => Below w3.heap.size w3 w') (by kernel_rfl) (by kernel_rfl) (dB _) ?_
      repeat (go_big_quiet_step (first | exact fun _ => rfl | rfl))
      refine quiet_call rfl (.string x) (fun w' hw' => bel_call (hL w' hw') hw') (fun w' _ => by go_simp) ?_
      simp only [Act.put, List.setIfInBounds_toArray, List.set_cons_succ, List.set_cons_zero]
      repeat (go_big_quiet_step (first | exact fun _ => rfl | rfl))
      refine quiet_call rfl (.string y) (fun w' hw' => bel_call (hR w' hw') hw') (fun w' _ => by go_simp) ?_
      simp only [Act.put, List.setIfInBounds_toArray, List.set_cons_succ, List.set_cons_zero]
      repeat (go_big_quiet_step (first | exact fun _ => rfl | rfl))
      refine quiet_call rfl (.string (nodeH x y)) (fun w' hw' => bel_call (hN w' hw') hw') (fun w' _ => by go_simp) ?_
      simp only [Act.put, List.setIfInBounds_toArray, List.set_cons_succ, List.set_cons_zero]
      repeat (go_big_quiet_step (first | exact fun _ => rfl | rfl))
      refine wpQuiet_nil ?_
      clear hL hR hN
      intro w7 hw7
      go_wp2_with fail
      go_ret
      exact ⟨rfl, hw7⟩
end Go.Proofs.YthkfefkcjcgfkaaGreatDoor
