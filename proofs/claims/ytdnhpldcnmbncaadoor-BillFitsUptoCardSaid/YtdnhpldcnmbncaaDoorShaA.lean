/- Walks of the scalar functions of package sha: a word turned, and the sums of turned words. No conditions. -/
import Derived.Test.YtdnhpldcnmbncaaDoorRows
import Derived.Test.YtdnhpldcnmbncaaDoorShaM
import Derived.WalkKit
import Derived.WalkSpells
import Derived.WalkLawsBesides
import Derived.Deep.QuietTactic
import Derived.BigQuiet
import Derived.Laws.BytesArg
import Derived.IntWalk
namespace Go.Proofs.YtdnhpldcnmbncaaDoor
open Go.RowKit

set_option maxHeartbeats 400000 in
theorem rot_nat (n : Nat) (x : BitVec 32) (w : World) (hn : 1 ≤ n ∧ n ≤ 31) :
    Calls Tryd.prog 97 #[.int .u32 (U x), .int .i64 (-(n : Int))] w fun e w' => e = .returned (.int .u32 (U (rotr x n))) ∧ w = w' := by
  have h1 : bits .and .u64 (IntKind.u64.wrap (-(n : Int))) 31 = 32 - (n : Int) := by
    obtain ⟨a, b⟩ := hn
    have : ∀ m : Fin 32, 1 ≤ m.val → bits .and .u64 (IntKind.u64.wrap (-(m.val : Int))) 31 = 32 - (m.val : Int) := by decide
    exact this ⟨n, by omega⟩ a
  have h2 := U_shl x (32 - n) (2 ^ (32 - n)) (by simp)
  have h3 := U_shr x n (2 ^ n) (by simp)
  have h4 := U_or
  have h6 : (min (32 - (n : Int)).toNat 32) = 32 - n := by omega
  have h7 : (min (n : Int).toNat 32) = n := by omega
  have h8 : (32 - (32 - (n : Int))) = n := by omega
  go_enter Tryd.func97, Tryd.ntmps97
  go_wp2
  go_ret
  exact ⟨rfl, rfl⟩
theorem rot_by (k : Int) (x : BitVec 32) (w : World) (hn : -31 ≤ k ∧ k ≤ -1) :
    Calls Tryd.prog 97 #[.int .u32 (U x), .int .i64 k] w fun e w' => e = .returned (.int .u32 (U (rotr x (-k).toNat))) ∧ w = w' := by
  obtain ⟨n, rfl⟩ : ∃ n : Nat, k = -(n : Int) := ⟨(-k).toNat, by omega⟩
  have : (- -(n : Int)).toNat = n := by omega
  rw [this]
  exact rot_nat n x w (by omega)

set_option maxHeartbeats 400000 in
theorem turns_S1 (x : BitVec 32) (w : World) :
    Calls Tryd.prog 88 #[.int .u32 (U x), .int .i64 6, .int .i64 11, .int .i64 25] w fun e w' => e = .returned (.int .u32 (U (S1 x))) ∧ w = w' := by
  have h4 := U_xor
  go_enter Tryd.func88, Tryd.ntmps88
  go_wp2_with (go_at_call 97; refine (rot_by _ _ _ (by omega)).mono ?_; rintro e w' ⟨rfl, rfl⟩)
  go_ret
  exact ⟨rfl, rfl⟩
set_option maxHeartbeats 400000 in
theorem turns_S0 (x : BitVec 32) (w : World) :
    Calls Tryd.prog 88 #[.int .u32 (U x), .int .i64 2, .int .i64 13, .int .i64 22] w fun e w' => e = .returned (.int .u32 (U (S0 x))) ∧ w = w' := by
  have h4 := U_xor
  go_enter Tryd.func88, Tryd.ntmps88
  go_wp2_with (go_at_call 97; refine (rot_by _ _ _ (by omega)).mono ?_; rintro e w' ⟨rfl, rfl⟩)
  go_ret
  exact ⟨rfl, rfl⟩
theorem quiet_same {P : Program} {f : FuncId} {args : Array Value} {w : World} {n : Nat} {v : Value}
    (h : Calls P f args (w.drewN n) fun e w' => e = .returned v ∧ w.drewN n = w') : Calls P f args (w.drewN n) fun e w'' => e = .returned v ∧ ∃ m, w'' = w.drewN m :=
  h.mono fun _ _ ⟨he, hm⟩ => ⟨he, n, hm.symm⟩

set_option maxHeartbeats 400000 in
theorem shift_any (i j k : Int) (x : BitVec 32) (w : World) (hi : 1 ≤ i ∧ i ≤ 31) (hj : 1 ≤ j ∧ j ≤ 31) (hk : 1 ≤ k ∧ k ≤ 31) :
    Calls Tryd.prog 96 #[.int .u32 (U x), .int .i64 i, .int .i64 j, .int .i64 k] w fun e w' => e = .returned (.int .u32 (U (sft x i j k))) ∧ ∃ n, w' = w.drewN n := by
  have h4 := U_xor
  have e3 : min k.toNat 32 = k.toNat := by omega
  have e0 : 0 ≤ k := by omega
  have h3 := U_shr x k.toNat (2 ^ k.toNat) (by simp)
  have e1 : IntKind.i64.wrap (-i) = -i := IntWalk.i64_in _ (by omega)
  have e2 : IntKind.i64.wrap (-j) = -j := IntWalk.i64_in _ (by omega)
  have e4 : - -i = i := by omega
  have e5 : - -j = j := by omega
  go_enter Tryd.func96, Tryd.ntmps96
  go_wp2
  go_quiet ((go_at_call 97; exact quiet_same (rot_by _ _ _ (by omega))))
  go_wp2
  go_ret
  exact ⟨rfl, _, rfl⟩

/-- The four bytes of a word. -/
def bytes4 (x : BitVec 32) : List Int := [U (x >>> 24) % 256, U (x >>> 16) % 256, U (x >>> 8) % 256, U x % 256]
set_option maxHeartbeats 400000 in
theorem four_any (x : BitVec 32) (w : World) :
    Calls Tryd.prog 89 #[.int .u32 (U x)] w fun e w' => e = .returned (.string (strOfNums (bytes4 x))) ∧ Below w.heap.size w w' := by
  have h1 := U_shr x 24 16777216 (by decide)
  have h2 := U_shr x 16 65536 (by decide)
  have h3 := U_shr x 8 256 (by decide)
  have hb := run_convert_bytes_arg (P := Tryd.prog) (w.alloc (Obj.cells
              #[Value.int IntKind.u8 (U (x >>> 24) % 256), Value.int IntKind.u8 (U (x >>> 16) % 256),
                Value.int IntKind.u8 (U (x >>> 8) % 256), Value.int IntKind.u8 (U x % 256)] 5)) 43 5 Tryd.underlying43 Tryd.underlying5 w.heap.size 0 4 4 (bytes4 x) rfl
      (fun i hi => by
        obtain rfl | rfl | rfl | rfl : i = 0 ∨ i = 1 ∨ i = 2 ∨ i = 3 := by omega
        all_goals simp [bytes4, World.cell?_alloc_at]) 9 Tryd.underlying9
  go_enter Tryd.func89, Tryd.ntmps89
  go_wp2
  go_ret
  exact ⟨rfl, (Below.refl _ _).alloc (Nat.le_refl _) _⟩
set_option maxHeartbeats 400000 in
theorem first_any (w : World) :
    Calls Tryd.prog 86 #[] w fun e w' => e = .returned (.agg (first8.map (fun x => Value.int .u32 (U x))).toArray) ∧ w' = w.alloc (Obj.cells (first8.map (fun x => Value.int .u32 (U x))).toArray 74) := by
  have e : (first8.map (fun x => Value.int .u32 (U x))).toArray =  #[Value.int IntKind.u32 1779033703, Value.int IntKind.u32 3144134277, Value.int IntKind.u32 1013904242,
          Value.int IntKind.u32 2773480762, Value.int IntKind.u32 1359893119, Value.int IntKind.u32 2600822924,
          Value.int IntKind.u32 528734635, Value.int IntKind.u32 1541459225] := by kernel_rfl
  rw [e]
  clear e
  go_enter Tryd.func86, Tryd.ntmps86
  go_wp2
  refine bodyPost_ret (v := .agg #[Value.int IntKind.u32 1779033703, Value.int IntKind.u32 3144134277, Value.int IntKind.u32 1013904242,
          Value.int IntKind.u32 2773480762, Value.int IntKind.u32 1359893119, Value.int IntKind.u32 2600822924,
          Value.int IntKind.u32 528734635, Value.int IntKind.u32 1541459225]) ?_ rfl ⟨rfl, rfl⟩
  simp [results, Tryd.results86, go_sem]
end Go.Proofs.YtdnhpldcnmbncaaDoor
