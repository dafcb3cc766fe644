/- A key in memory, and the small calls: New, numbers, Used, Left, the atomic counter. -/
import Derived.Test.YtbnmdieadaeeiaaGreatDoorKyM
import Derived.Test.YtbnmdieadaeeiaaGreatDoorKPk
import Derived.Test.YtbnmdieadaeeiaaGreatDoorOtF
import Derived.Laws.LoneSync
namespace Go.Proofs.YtbnmdieadaeeiaaGreatDoor
open Go Go.RowKit

/-- A key's cells: seed, height, how many numbers are used, whether the tree is made, the lock, the tree. -/
def kcells (s : ByteArray) (h u : Nat) (d : Int) (v : Value) : List Value := [.string s, .int .i64 (h : Int), .int .i64 (u : Int), .int .u32 d, .int .i32 0, .int .u32 0, v]
def tcells (s : ByteArray) (h : Nat) : List Value := (List.range (2 * 2 ^ h)).map fun p => Value.string (plc s h p)
theorem tcells_length (s : ByteArray) (h : Nat) : (tcells s h).length = 2 * 2 ^ h := by simp [tcells]
theorem tcells_get (s : ByteArray) (h p : Nat) (hp : p < 2 * 2 ^ h) : (tcells s h)[p]? = some (.string (plc s h p)) := by simp [tcells, hp]
/-- The tree's block, if it is made. -/
def treeV (h : Nat) : Option Nat → Value
  | none => .slice none 0 0
  | some t => .slice (some ⟨t, 0, none⟩) (2 * 2 ^ h) (2 * 2 ^ h)
def doneV : Option Nat → Int
  | none => 0
  | some _ => 1
structure KeyAt (w : World) (b : Nat) (O : Option Nat) (s : ByteArray) (h u : Nat) : Prop where
  blk : Blk w b (kcells s h u (doneV O) (treeV h O)) 77
  tree : ∀ t, O = some t → t ≠ b ∧ Blk w t (tcells s h) 9
  low : h ≤ 4
theorem KeyAt.lt {w : World} {b : Nat} {O : Option Nat} {s : ByteArray} {h u : Nat} (k : KeyAt w b O s h u) : b < w.heap.size := k.blk.lt
theorem KeyAt.chg {S : Nat → Prop} {w w' : World} {b : Nat} {O : Option Nat} {s : ByteArray} {h u : Nat} (k : KeyAt w b O s h u) (hc : Pk.Chg S w w') (h1 : ¬ S b) (h2 : ∀ t, O = some t → ¬ S t) : KeyAt w' b O s h u :=
  ⟨hc.blk k.blk h1, fun t e => ⟨(k.tree t e).1, hc.blk (k.tree t e).2 (h2 t e)⟩, k.low⟩
theorem KeyAt.below {B : Nat} {w w' : World} {b : Nat} {O : Option Nat} {s : ByteArray} {h u : Nat} (k : KeyAt w b O s h u) (hb : Below B w w') (h1 : b < B) (h2 : ∀ t, O = some t → t < B) : KeyAt w' b O s h u :=
  k.chg (Pk.Chg.of_below hb) (by omega) (fun t e => by have := h2 t e; omega)
theorem KeyAt.here {w w' : World} {b : Nat} {O : Option Nat} {s : ByteArray} {h u : Nat} (k : KeyAt w b O s h u) (hb : Below w.heap.size w w') : KeyAt w' b O s h u :=
  k.below hb k.lt (fun t e => (k.tree t e).2.lt)
/-- The words k stay where a key changes. -/
theorem KIs.chg {S : Nat → Prop} {w w' : World} (hK : KIs w) (hc : Pk.Chg S w w') (hn : ¬ S 0) : KIs w' := fun i hi => by
  have h1 := hK i hi
  unfold World.cell? at h1 ⊢
  rw [hc.block _ hK.lt hn]
  exact h1
theorem KIs.blk_ne {w : World} (hK : KIs w) {b : Nat} {s : ByteArray} {cs : List Value} {t : TypeId} (h : Blk w b (.string s :: cs) t) : b ≠ 0 := fun e => by
  have h1 := hK 0 (by omega)
  have h2 := h.cell 0
  rw [e, h1] at h2
  simp at h2
theorem KeyAt.kis {w w' : World} {b : Nat} {O : Option Nat} {s : ByteArray} {h u : Nat} (k : KeyAt w b O s h u) (hK : KIs w) (hc : Pk.Chg (fun i => i = b) w w') : KIs w' :=
  hK.chg hc (fun e => hK.blk_ne k.blk e.symm)
/-- A key behind a call: the same key, its tree made perhaps. -/
structure KeyTo (w : World) (b : Nat) (O : Option Nat) (s : ByteArray) (h u : Nat) (w' : World) : Prop where
  ex : ∃ O', KeyAt w' b O' s h u ∧ (O' = O ∨ ∀ t, O' = some t → w.heap.size ≤ t)
  chg : Pk.Chg (fun i => i = b) w w'

theorem chg0 {S : Nat → Prop} {w w' : World} (h : Below w.heap.size w w') : Pk.Chg S w w' := (Pk.Chg.of_below h).mono fun i hi e => absurd hi (by omega)
theorem dB (w : World) : Below w.heap.size w w.drew := Drawn.below ⟨1, rfl⟩
theorem mono_bel {B : Nat} {w w1 w2 : World} (h : Below B w w1) (k : Below w1.heap.size w1 w2) (hB : B ≤ w.heap.size) : Below B w w2 := h.trans (k.mono (Nat.le_trans hB h.size))

set_option maxHeartbeats 800000 in
theorem new_no (s : ByteArray) (n : Int) (w : World) (hn : n < 0 ∨ 4 < n) :
    Calls Tryz.prog 10 #[.string s, .int .i64 n] w fun e w' => e = .returned (.tuple #[.pointer none, .int .i64 1]) ∧ w' = w := by
  rcases hn with hn | hn
  · go_enter Tryz.func10, Tryz.ntmps10
    go_wp2_with fail
    go_returns
    exact ⟨rfl, rfl⟩
  · have h0 : ¬ n < 0 := by omega
    go_enter Tryz.func10, Tryz.ntmps10
    go_wp2_with fail
    go_returns
    exact ⟨rfl, rfl⟩
set_option maxHeartbeats 800000 in
theorem new_ok (s : ByteArray) (h : Nat) (w : World) (hh : h ≤ 4) :
    Calls Tryz.prog 10 #[.string s, .int .i64 (h : Int)] w fun e w' => e = .returned (.tuple #[.pointer (some ⟨w.heap.size, 0, none⟩), .int .i64 0]) ∧ KeyAt w' w.heap.size none s h 0 ∧ Below w.heap.size w w' := by
  have h0 : ¬ (h : Int) < 0 := by omega
  have h1 : ¬ 4 < (h : Int) := by omega
  have hA : KeyAt (w.alloc (.cells #[.string s, .int .i64 (h : Int), .int .i64 0, .int .u32 0, .int .i32 0, .int .u32 0, .slice none 0 0] 77)) w.heap.size none s h 0 := ⟨Blk.new w (kcells s h 0 0 (.slice none 0 0)) _, (fun t e => by cases e), hh⟩
  have hB : Box (Below w.heap.size w (w.alloc (.cells #[.string s, .int .i64 (h : Int), .int .i64 0, .int .u32 0, .int .i32 0, .int .u32 0, .slice none 0 0] 77))) := ⟨(Below.refl _ _).alloc (Nat.le_refl _) _⟩
  replace hA := Box.mk hA
  go_enter Tryz.func10, Tryz.ntmps10
  go_wp2_with fail
  go_returns
  exact ⟨rfl, hA.out, hB.out⟩

theorem pow_le (h : Nat) (hh : h ≤ 4) : 2 ^ h ≤ 16 := Nat.le_trans (Nat.pow_le_pow_right (by omega) hh) (by decide)
set_option maxHeartbeats 800000 in
theorem numbers_any (b : Nat) (O : Option Nat) (s : ByteArray) (h u : Nat) (w : World) (k : KeyAt w b O s h u) :
    Calls Tryz.prog 29 #[.pointer (some ⟨b, 0, none⟩)] w fun e w' => e = .returned (.int .i64 ((2 ^ h : Nat) : Int)) ∧ w' = w := by
  have c1 := k.blk.cell 1
  have hh := k.low
  clear k
  obtain rfl | rfl | rfl | rfl | rfl : h = 0 ∨ h = 1 ∨ h = 2 ∨ h = 3 ∨ h = 4 := by omega
  all_goals
    simp only [kcells] at c1
    go_enter Tryz.func29, Tryz.ntmps29
    go_wp2_with fail
    go_ret
    exact ⟨rfl, rfl⟩
set_option maxHeartbeats 800000 in
theorem used_any (b : Nat) (O : Option Nat) (s : ByteArray) (h u : Nat) (w : World) (k : KeyAt w b O s h u) :
    Calls Tryz.prog 19 #[.pointer (some ⟨b, 0, none⟩)] w fun e w' => e = .returned (.int .i64 (u : Int)) ∧ w' = w := by
  have c2 : w.cell? ⟨b, 2, none⟩ = some (.int .i64 (u : Int)) := k.blk.cell 2
  have hl := run_call_load (P := Tryz.prog) Tryz.func68 (by kernel_rfl) (by kernel_rfl) (by kernel_rfl) .i64 (by kernel_rfl) c2
  clear k
  go_enter Tryz.func19, Tryz.ntmps19
  go_wp2
  go_ret
  exact ⟨rfl, rfl⟩
set_option maxHeartbeats 800000 in
theorem left_any (b : Nat) (O : Option Nat) (s : ByteArray) (h u : Nat) (w : World) (k : KeyAt w b O s h u) (hu : u ≤ 2 ^ h) :
    Calls Tryz.prog 20 #[.pointer (some ⟨b, 0, none⟩)] w fun e w' => e = .returned (.int .i64 ((2 ^ h - u : Nat) : Int)) ∧ w' = w := by
  have hN := numbers_any b O s h u w k
  have hU := used_any b O s h u w k
  have hp := pow_le h k.low
  obtain ⟨m, hm⟩ : ∃ m, 2 ^ h = m := ⟨_, rfl⟩
  rw [hm] at hN hp hu ⊢
  clear k hm
  go_enter Tryz.func20, Tryz.ntmps20
  go_wp2_with fail
  refine hN.mono ?_
  rintro e w1 ⟨rfl, rfl⟩
  go_wp2_with fail
  refine hU.mono ?_
  rintro e w1 ⟨rfl, rfl⟩
  go_wp2_with fail
  go_ret
  exact ⟨by rw [Ending.returned.injEq]; exact u_eq (by omega), rfl⟩
set_option maxHeartbeats 800000 in
/-- The counter's new number, where it holds the old one. -/
theorem cas_hit (b : Nat) (x y : Int) (w : World) (hc : w.cell? ⟨b, 2, none⟩ = some (.int .i64 x)) (hz : w.frozen? ⟨b, 2, none⟩ = false) :
    Calls Tryz.prog 30 #[.pointer (some ⟨b, 2, none⟩), .int .i64 x, .int .i64 y] w fun e w' => e = .returned (.bool true) ∧ w' = w.setCell ⟨b, 2, none⟩ (.int .i64 y) := by
  have hl := run_call_cas_hit (P := Tryz.prog) Tryz.func50 (by kernel_rfl) (by kernel_rfl) (by kernel_rfl) .i64 (by kernel_rfl) (y := y) hc hz
  go_enter Tryz.func30, Tryz.ntmps30
  go_wp2
  go_ret
  exact ⟨rfl, rfl⟩
theorem KeyAt.use {w : World} {b : Nat} {O : Option Nat} {s : ByteArray} {h u : Nat} (k : KeyAt w b O s h u) (v : Nat) : KeyAt (w.setCell ⟨b, 2, none⟩ (.int .i64 (v : Int))) b O s h v := by
  refine ⟨?_, fun t e => ⟨(k.tree t e).1, ?_⟩, k.low⟩
  · have := k.blk.setCell 2 (.int .i64 (v : Int))
    exact this
  · have h1 := (k.tree t e).2
    unfold Blk at h1 ⊢
    rw [← h1]
    exact Below.heap_setCell _ _ _ _ (k.tree t e).1
theorem KeyAt.cell2 {w : World} {b : Nat} {O : Option Nat} {s : ByteArray} {h u : Nat} (k : KeyAt w b O s h u) : w.cell? ⟨b, 2, none⟩ = some (.int .i64 (u : Int)) := k.blk.cell 2

set_option maxHeartbeats 800000 in
theorem take_no (b : Nat) (O : Option Nat) (s : ByteArray) (h u c : Nat) (w : World) (k : KeyAt w b O s h u) (hc : 2 ^ h < u + c) (hu : u ≤ 2 ^ h) (hc2 : c ≤ 4611686018427387904) :
    Calls Tryz.prog 37 #[.pointer (some ⟨b, 0, none⟩), .int .i64 (c : Int)] w fun e w' => e = .returned (.tuple #[.int .i64 0, .bool false]) ∧ w' = w := by
  have hN := numbers_any b O s h u w k
  have hU := used_any b O s h u w k
  have hp := pow_le h k.low
  obtain ⟨m, hm⟩ : ∃ m, 2 ^ h = m := ⟨_, rfl⟩
  rw [hm] at hN hp hc hu
  clear k hm
  go_enter Tryz.func37, Tryz.ntmps37
  go_wp2_with fail
  go_loopw [6] (fun q wr => wr = w) (fun _ _ => 0)
  case atStart => rfl
  case round =>
    obtain rfl := hrel
    go_wp2_with fail
    refine hU.mono ?_
    rintro e w1 ⟨rfl, rfl⟩
    go_wp2_with fail
    refine hN.mono ?_
    rintro e w1 ⟨rfl, rfl⟩
    go_wp2_with fail
    go_returns
    exact ⟨rfl, rfl⟩
set_option maxHeartbeats 800000 in
theorem take_ok (b : Nat) (O : Option Nat) (s : ByteArray) (h u c : Nat) (w : World) (k : KeyAt w b O s h u) (hc : u + c ≤ 2 ^ h) :
    Calls Tryz.prog 37 #[.pointer (some ⟨b, 0, none⟩), .int .i64 (c : Int)] w fun e w' => e = .returned (.tuple #[.int .i64 (u : Int), .bool true]) ∧ w' = w.setCell ⟨b, 2, none⟩ (.int .i64 ((u + c : Nat) : Int)) := by
  have hN := numbers_any b O s h u w k
  have hU := used_any b O s h u w k
  have hp := pow_le h k.low
  have hC := cas_hit b (u : Int) ((u + c : Nat) : Int) w k.cell2 (k.blk.free 2)
  rw [show ((u + c : Nat) : Int) = (u : Int) + (c : Int) by omega] at hC
  obtain ⟨m, hm⟩ : ∃ m, 2 ^ h = m := ⟨_, rfl⟩
  rw [hm] at hN hp hc
  rw [show ((u + c : Nat) : Int) = (u : Int) + (c : Int) by omega]
  clear k hm
  go_enter Tryz.func37, Tryz.ntmps37
  go_wp2_with fail
  go_loopw [6] (fun q wr => wr = w) (fun _ _ => 0)
  case atStart => rfl
  case round =>
    obtain rfl := hrel
    go_wp2_with fail
    refine hU.mono ?_
    rintro e w1 ⟨rfl, rfl⟩
    go_wp2_with fail
    refine hN.mono ?_
    rintro e w1 ⟨rfl, rfl⟩
    go_wp2_with fail
    refine hC.mono ?_
    rintro e w1 ⟨rfl, rfl⟩
    go_wp2_with fail
    go_returns
    exact ⟨rfl, rfl⟩
/-- How many numbers are used behind Skip. -/
def skipN (u : Nat) (n : Int) (h : Nat) : Nat := max u (min n.toNat (2 ^ h))
set_option maxHeartbeats 800000 in
theorem skip_no (b : Nat) (O : Option Nat) (s : ByteArray) (h u : Nat) (n : Int) (w : World) (k : KeyAt w b O s h u) (hn : min n ((2 ^ h : Nat) : Int) ≤ (u : Int)) :
    Calls Tryz.prog 12 #[.pointer (some ⟨b, 0, none⟩), .int .i64 n] w fun e w' => e = .returned (.tuple #[]) ∧ w' = w := by
  have hN := numbers_any b O s h u w k
  have hU := used_any b O s h u w k
  have hp := pow_le h k.low
  obtain ⟨m, hm⟩ : ∃ m, 2 ^ h = m := ⟨_, rfl⟩
  rw [hm] at hN hp hn
  clear k hm
  obtain ⟨c, hc⟩ : ∃ c, min n (m : Int) = c := ⟨_, rfl⟩
  rw [hc] at hn
  have hcl : c = n ∧ n ≤ m ∨ c = m ∧ (m : Int) < n := by omega
  clear hc
  go_enter Tryz.func12, Tryz.ntmps12
  go_wp2_with fail
  refine hN.mono ?_
  rintro e w1 ⟨rfl, rfl⟩
  rcases hcl with ⟨rfl, hcl⟩ | ⟨rfl, hcl⟩
  all_goals
    go_wp2_with fail
    refine hU.mono ?_
    rintro e w1 ⟨rfl, rfl⟩
    go_wp2_with fail
    go_loopw [4] (fun q wr => wr = w1 ∧ q = .int .i64 (u : Int)) (fun _ _ => 0)
    case atStart => exact ⟨rfl, rfl⟩
    case round =>
      obtain ⟨rfl, rfl⟩ := hrel
      go_wp2_with fail
      go_end0
      exact ⟨rfl, rfl⟩
set_option maxHeartbeats 800000 in
set_option maxRecDepth 100000 in
theorem skip_yes (b : Nat) (O : Option Nat) (s : ByteArray) (h u c : Nat) (n : Int) (w : World) (k : KeyAt w b O s h u) (hc : min n ((2 ^ h : Nat) : Int) = (c : Int)) (hn : u < c) :
    Calls Tryz.prog 12 #[.pointer (some ⟨b, 0, none⟩), .int .i64 n] w fun e w' => e = .returned (.tuple #[]) ∧ w' = w.setCell ⟨b, 2, none⟩ (.int .i64 (c : Int)) := by
  have hN := numbers_any b O s h u w k
  have hU := used_any b O s h u w k
  have hU2 := used_any b O s h c _ (k.use c)
  have hC := cas_hit b (u : Int) (c : Int) w k.cell2 (k.blk.free 2)
  have hp := pow_le h k.low
  obtain ⟨m, hm⟩ : ∃ m, 2 ^ h = m := ⟨_, rfl⟩
  rw [hm] at hN hp hc
  clear k hm
  obtain ⟨w2, hw2⟩ : ∃ w2, w.setCell ⟨b, 2, none⟩ (.int .i64 (c : Int)) = w2 := ⟨_, rfl⟩
  rw [hw2] at hU2 hC ⊢
  replace hw2 := Box.mk hw2
  go_enter Tryz.func12, Tryz.ntmps12
  go_wp2_with fail
  refine hN.mono ?_
  rintro e w1 ⟨rfl, rfl⟩
  go_wp2_with fail
  refine hU.mono ?_
  rintro e w1 ⟨rfl, rfl⟩
  go_wp2_with fail
  go_loopw [4] (fun q wr => ∃ a : Nat, q = .int .i64 (a : Int) ∧ (a = u ∧ wr = w1 ∨ a = c ∧ wr = w2)) (fun q _ => c - (intOf q).toNat)
  case atStart => exact ⟨u, rfl, Or.inl ⟨rfl, rfl⟩⟩
  case round =>
    obtain ⟨a, rfl, ⟨rfl, rfl⟩ | ⟨rfl, rfl⟩⟩ := hrel
    · go_wp2_with fail
      refine hC.mono ?_
      rintro e w3 ⟨rfl, rfl⟩
      go_wp2_with fail
      refine hU2.mono ?_
      rintro e w3 ⟨rfl, rfl⟩
      go_wp2_with fail
      refine ⟨⟨_, rfl, Or.inr (by simp)⟩, by simp [intOf]; omega⟩
    · go_wp2_with fail
      go_end0
      exact ⟨rfl, rfl⟩
theorem skip_any (b : Nat) (O : Option Nat) (s : ByteArray) (h u : Nat) (n : Int) (w : World) (k : KeyAt w b O s h u) :
    Calls Tryz.prog 12 #[.pointer (some ⟨b, 0, none⟩), .int .i64 n] w fun e w' => e = .returned (.tuple #[]) ∧ KeyAt w' b O s h (skipN u n h) ∧ Pk.Chg (fun i => i = b) w w' := by
  by_cases hn : min n ((2 ^ h : Nat) : Int) ≤ (u : Int)
  · refine (skip_no b O s h u n w k hn).mono ?_
    rintro e w' ⟨rfl, rfl⟩
    have : skipN u n h = u := by unfold skipN; omega
    rw [this]
    exact ⟨rfl, k, Pk.Chg.refl _ _⟩
  · obtain ⟨c, hc⟩ : ∃ c : Nat, min n ((2 ^ h : Nat) : Int) = (c : Int) := ⟨(min n ((2 ^ h : Nat) : Int)).toNat, by omega⟩
    refine (skip_yes b O s h u c n w k hc (by omega)).mono ?_
    rintro e w' ⟨rfl, rfl⟩
    have : skipN u n h = c := by unfold skipN; omega
    rw [this]
    exact ⟨rfl, k.use c, (Pk.Chg.refl (fun i => i = b) w).setCell (p := ⟨b, 2, none⟩) rfl _⟩
end Go.Proofs.YtbnmdieadaeeiaaGreatDoor
