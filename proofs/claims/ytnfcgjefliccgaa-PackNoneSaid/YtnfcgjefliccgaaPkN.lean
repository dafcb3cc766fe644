/- Walk of the law PackNone. -/
import Derived.Test.YtnfcgjefliccgaaPkL
import Derived.Test.YtnfcgjefliccgaaPkD
namespace Go.Proofs.Ytnfcgjefliccgaa
open Go.RowKit

set_option maxHeartbeats 1600000 in
set_option maxRecDepth 100000 in
theorem packnone_any (x : UInt8) (n : Int) (s : ByteArray) (w : World) :
    Calls Try.prog 6 #[.agg #[.int .u8 (x.toNat : Int), .int .i64 n, .string s]] w fun e w' => e = .returned (.bool true) ∧ Below w.heap.size w w' := by
  obtain ⟨wb, hwb⟩ : ∃ wb, w.alloc (.cells #[.int .u8 (x.toNat : Int), .int .i64 n, .string s] 31) = wb := ⟨_, rfl⟩
  have hB0 : Below w.heap.size w wb := by rw [← hwb]; exact (Below.refl _ _).alloc (Nat.le_refl _) _
  have hN := Blk.new w [.int .u8 (x.toNat : Int), .int .i64 n, .string s] 31
  rw [hwb] at hN
  have hL := lays_any wb
  replace hB0 := Box.mk hB0
  replace hN := Box.mk hN
  go_enter Try.func6, Try.ntmps6
  go_wp2_with fail
  refine hL.mono ?_
  rintro e w1 ⟨rfl, hb1⟩
  clear hL
  have hlt := hN.out.lt
  have hN1 : Blk w1 w.heap.size _ _ := (hb1.block _ hlt).trans hN.out
  have c1 : w1.cell? ⟨w.heap.size, 1, none⟩ = some (.int .i64 n) := hN1.cell 1
  have hB1 := Box.mk (hB0.out.trans (hb1.mono hB0.out.size))
  clear hb1 hwb hN1 hlt
  go_wp2_with fail
  refine (fail_nil 6 w1).mono ?_
  rintro e w' ⟨rfl, rfl⟩
  go_wp2_with fail
  refine (rbyte_nil w1).mono ?_
  rintro e w' ⟨rfl, rfl⟩
  go_wp2_with fail
  refine (rtwo_nil w1).mono ?_
  rintro e w' ⟨rfl, rfl⟩
  go_wp2_with fail
  refine (rfour_nil w1).mono ?_
  rintro e w' ⟨rfl, rfl⟩
  go_wp2_with fail
  refine (reight_nil w1).mono ?_
  rintro e w' ⟨rfl, rfl⟩
  go_wp2_with fail
  refine (rtext_nil n w1).mono ?_
  rintro e w' ⟨rfl, rfl⟩
  go_wp2_with fail
  refine (rhash_nil w1).mono ?_
  rintro e w' ⟨rfl, rfl⟩
  go_wp2_with fail
  refine (rraw_nil n w1).mono ?_
  rintro e w' ⟨rfl, rfl⟩
  go_wp2_with fail
  refine (left_nil w1).mono ?_
  rintro e w' ⟨rfl, rfl⟩
  go_wp2_with fail
  refine (err_nil w1).mono ?_
  rintro e w' ⟨rfl, rfl⟩
  go_wp2_with fail
  refine (end_nil w1).mono ?_
  rintro e w' ⟨rfl, rfl⟩
  go_wp2_with fail
  go_returns
  exact ⟨rfl, hB1.out⟩
end Go.Proofs.Ytnfcgjefliccgaa
