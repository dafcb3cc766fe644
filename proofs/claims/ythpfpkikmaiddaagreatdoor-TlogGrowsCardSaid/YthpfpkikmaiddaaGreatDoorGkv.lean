/- Verify: over, idOf, climb, parse, Number, Verify; small facts on worlds. -/
import Derived.Laws.MakeOwn
import Derived.Test.YthpfpkikmaiddaaGreatDoorGre
import Derived.Test.YthpfpkikmaiddaaGreatDoorGpk
import Derived.Test.YthpfpkikmaiddaaGreatDoorGop
import Derived.Test.YthpfpkikmaiddaaGreatDoorGa5
set_option linter.all false
set_option linter.unusedVariables false
set_option linter.unusedSimpArgs false
namespace Go.Proofs.YthpfpkikmaiddaaGreatDoor
open Go Go.RowKit

/-- The words k stay where a key changes. -/
theorem KIs.chg {S : Nat → Prop} {w w' : World} (hK : KIs w) (hc : Pk.Chg S w w') (hn : ¬ S 3) : KIs w' := fun i hi => by
  have h1 := hK i hi
  unfold World.cell? at h1 ⊢
  rw [hc.block _ hK.lt hn]
  exact h1
theorem KIs.blk_ne {w : World} (hK : KIs w) {b : Nat} {s : ByteArray} {cs : List Value} {t : TypeId} (h : Blk w b (.string s :: cs) t) : b ≠ 3 := fun e => by
  have h1 := hK 0 (by omega)
  have h2 := h.cell 0
  rw [e, h1] at h2
  simp at h2
theorem chg0 {S : Nat → Prop} {w w' : World} (h : Below w.heap.size w w') : Pk.Chg S w w' := (Pk.Chg.of_below h).mono fun i hi e => absurd hi (by omega)
theorem dB (w : World) : Below w.heap.size w w.drew := Drawn.below ⟨1, rfl⟩
theorem mono_bel {B : Nat} {w w1 w2 : World} (h : Below B w w1) (k : Below w1.heap.size w1 w2) (hB : B ≤ w.heap.size) : Below B w w2 := h.trans (k.mono (Nat.le_trans hB h.size))

theorem pow_le (h : Nat) (hh : h ≤ 4) : 2 ^ h ≤ 16 := Nat.le_trans (Nat.pow_le_pow_right (by omega) hh) (by decide)
theorem tag2_len (k : UInt8) (a b : ByteArray) (ha : a.size ≤ 1000) (hb : b.size ≤ 1000) : (tagL k [a, b]).length ≤ 100000 := by
  simp only [tagL, tagP, List.flatMap_cons, List.flatMap_nil, List.length_cons, List.length_append, data_len, be4_length, List.length_nil]
  omega
set_option maxHeartbeats 800000 in
set_option maxRecDepth 100000 in
theorem over_any (a b : ByteArray) (w : World) (hK : KIs w) (ha : a.size = 32) (hb : b.size = 32) :
    Calls Tryz.prog 225 #[.string a, .string b] w fun e w' => e = .returned (.string (nodeV a b)) ∧ Below w.heap.size w w' := by
  have hsz := tag2_len 37 a b (by omega) (by omega)
  have hF := stagB_parts 37 (.slice (some ⟨w.heap.size, 0, none⟩) 2 2) [a, b] (w.alloc (.cells #[.string a, .string b] 9)) (parts_new w [a, b] 9) (hK.below ((Below.refl _ _).alloc (Nat.le_refl _) _) hK.lt) (by omega) (by simp)
  rw [show hashOf (tagL 37 [a, b]) = nodeV a b from rfl] at hF
  have hB : Box (Below w.heap.size w (w.alloc (.cells #[.string a, .string b] 9))) := ⟨(Below.refl _ _).alloc (Nat.le_refl _) _⟩
  obtain ⟨y, hy⟩ : ∃ y, nodeV a b = y := ⟨_, rfl⟩
  rw [hy] at hF ⊢
  clear hsz hK hy
  go_enter Tryz.func225, Tryz.ntmps225
  go_wp2_with fail
  refine hF.mono ?_
  rintro e w3 ⟨rfl, hb3⟩
  clear hF
  have hB3 : Box (Below w.heap.size w w3) := ⟨hB.out.trans (hb3.mono (by simp))⟩
  clear hb3
  go_wp2_with fail
  go_ret
  exact ⟨rfl, hB3.out⟩
set_option maxHeartbeats 800000 in
set_option maxRecDepth 100000 in
theorem id_any (h : Nat) (t : ByteArray) (w : World) (hK : KIs w) (hh : h ≤ 255) (ht : t.size = 32) :
    Calls Tryz.prog 116 #[.int .i64 (h : Int), .string t] w fun e w' => e = .returned (.string (idV h t)) ∧ Below w.heap.size w w' := by
  have h1 : (by1 h).size = 1 := rfl
  have hsz := tag2_len 38 (by1 h) t (by omega) (by omega)
  have hN : ((UInt8.ofNat h).toNat : Int) = (h : Int) := by rw [UInt8.toNat_ofNat']; omega
  have hcv := one_text w (UInt8.ofNat h)
  have hF := stagB_parts 38 (.slice (some ⟨w.heap.size + 1, 0, none⟩) 2 2) [by1 h, t] ((w.alloc (.cells #[Value.int .u8 ((UInt8.ofNat h).toNat : Int)] 5)).alloc (.cells #[.string (by1 h), .string t] 9))
    (by have := parts_new (w.alloc (.cells #[Value.int .u8 ((UInt8.ofNat h).toNat : Int)] 5)) [by1 h, t] 9; rwa [show (w.alloc (.cells #[Value.int .u8 ((UInt8.ofNat h).toNat : Int)] 5)).heap.size = w.heap.size + 1 by simp] at this)
    (hK.below (((Below.refl _ _).alloc (Nat.le_refl _) _).alloc (by simp) _) hK.lt) (by omega) (by simp)
  rw [show hashOf (tagL 38 [by1 h, t]) = idV h t from rfl] at hF
  have hB : Box (Below w.heap.size w ((w.alloc (.cells #[Value.int .u8 ((UInt8.ofNat h).toNat : Int)] 5)).alloc (.cells #[.string (by1 h), .string t] 9))) := ⟨((Below.refl _ _).alloc (Nat.le_refl _) _).alloc (by simp) _⟩
  obtain ⟨y, hy⟩ : ∃ y, idV h t = y := ⟨_, rfl⟩
  rw [hy] at hF ⊢
  rw [show one (UInt8.ofNat h) = by1 h from rfl] at hcv
  obtain ⟨x, hx⟩ : ∃ x, by1 h = x := ⟨_, rfl⟩
  rw [hx] at hF hcv hB
  rw [hN] at hF hcv hB
  clear hsz hK hy hx h1 hN
  go_enter Tryz.func116, Tryz.ntmps116
  go_wp2_with fail
  refine hF.mono ?_
  rintro e w3 ⟨rfl, hb3⟩
  clear hF
  have hB3 : Box (Below w.heap.size w w3) := ⟨hB.out.trans (hb3.mono (by simp; omega))⟩
  clear hb3
  go_wp2_with fail
  go_ret
  exact ⟨rfl, hB3.out⟩

theorem info_s : (Tryz.prog.info? 9).map (fun i => (i.zero, i.size, i.bytes)) = some (some (.string ⟨#[]⟩), 1, 16) := by kernel_rfl
theorem xor_nb (i : Nat) (hi : i < 32) : bits .xor .i64 (i : Int) 1 = ((nb i : Nat) : Int) := by
  have h : ∀ i : Fin 32, bits .xor .i64 ((i.val : Nat) : Int) 1 = ((nb i.val : Nat) : Int) := by decide +kernel
  exact h ⟨i, hi⟩

end Go.Proofs.YthpfpkikmaiddaaGreatDoor
