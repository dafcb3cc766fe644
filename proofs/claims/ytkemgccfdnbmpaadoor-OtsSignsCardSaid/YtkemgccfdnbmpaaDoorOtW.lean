/- Walk of the law OtsSigns. -/
import Derived.Test.YtkemgccfdnbmpaaDoorOtU
import Derived.Test.YtkemgccfdnbmpaaDoorOtG
namespace Go.Proofs.YtkemgccfdnbmpaaDoor
open Go Go.RowKit

set_option maxHeartbeats 1600000 in
set_option maxRecDepth 100000 in
theorem law_signs (s t : ByteArray) (n : Int) (w : World) (hK : KIs w) (hs : s.size ≤ 140737488351232) (ht : t.size ≤ 140737488351232) :
    Calls Tryd.prog 3 #[.string s, .int .i64 n, .string t] w fun e w' => e = .returned (.bool true) ∧ Below w.heap.size w w' := by
  have key : ∃ (p q : ByteArray) (e : Int), (∀ w1, KIs w1 → Calls Tryd.prog 7 #[.string s, .int .i64 n] w1 fun e' w' => e' = .returned (.tuple #[.string p, .int .i64 e]) ∧ Below w1.heap.size w1 w') ∧
      (∀ w1, Calls Tryd.prog 8 #[.string s, .int .i64 n] w1 fun e' w' => e' = .returned (.tuple #[.string p, .int .i64 e]) ∧ Below w1.heap.size w1 w') ∧
      (∀ w1, KIs w1 → Calls Tryd.prog 9 #[.string s, .int .i64 n, .string t] w1 fun e' w' => e' = .returned (.tuple #[.string q, .int .i64 e]) ∧ Below w1.heap.size w1 w') ∧
      (∀ w1, Calls Tryd.prog 10 #[.string s, .int .i64 n, .string t] w1 fun e' w' => e' = .returned (.tuple #[.string q, .int .i64 e]) ∧ Below w1.heap.size w1 w') := by
    by_cases hn : n < 0 ∨ 65535 < n
    · exact ⟨_, _, _, fun w1 _ => public_no s n w1 hn, fun w1 => rpublic_no s n w1 hn, fun w1 _ => sign_no s t n w1 hn, fun w1 => rsign_no s t n w1 hn⟩
    · obtain ⟨m, rfl⟩ : ∃ m : Nat, n = (m : Int) := ⟨n.toNat, by omega⟩
      exact ⟨_, _, _, fun w1 hK1 => public_ok s m w1 hK1 (by omega) (by omega), fun w1 => rpublic_ok s m w1 (by omega) hs, fun w1 hK1 => sign_ok s t m w1 hK1 (by omega) (by omega) (by omega), fun w1 => rsign_ok s t m w1 (by omega) hs ht⟩
  obtain ⟨p, q, e, h1, h2, h3, h4⟩ := key
  have h0 := signs_any w hK
  have hKB := Box.mk hK
  clear hK hs ht
  go_enter Tryd.func3, Tryd.ntmps3
  go_wp2_with fail
  refine h0.mono ?_
  clear h0
  rintro e0 w0 ⟨rfl, hb0⟩
  have hB0 : Box (Below w.heap.size w w0) := ⟨hb0⟩
  have hF := h1 w0 (hKB.out.below hB0.out hKB.out.lt)
  clear h1 hb0
  go_wp2_with fail
  refine hF.mono ?_
  clear hF
  rintro e0 w1 ⟨rfl, hb1⟩
  have hB1 : Box (Below w.heap.size w w1) := ⟨hB0.out.trans (hb1.mono hB0.out.size)⟩
  have hF := h2 w1
  clear h2 hb1 hB0
  go_wp2_with fail
  refine hF.mono ?_
  clear hF
  rintro e0 w2 ⟨rfl, hb2⟩
  have hB2 : Box (Below w.heap.size w w2) := ⟨hB1.out.trans (hb2.mono hB1.out.size)⟩
  have hF := h3 w2 (hKB.out.below hB2.out hKB.out.lt)
  clear h3 hb2 hB1
  go_wp2_with fail
  refine hF.mono ?_
  clear hF
  rintro e0 w3 ⟨rfl, hb3⟩
  have hB3 : Box (Below w.heap.size w w3) := ⟨hB2.out.trans (hb3.mono hB2.out.size)⟩
  have hF := h4 w3
  clear h4 hb3 hB2
  go_wp2_with fail
  refine hF.mono ?_
  clear hF
  rintro e0 w4 ⟨rfl, hb4⟩
  have hB4 : Box (Below w.heap.size w w4) := ⟨hB3.out.trans (hb4.mono hB3.out.size)⟩
  clear hb4 hB3
  go_wp2_with fail
  go_ret
  exact ⟨rfl, hB4.out⟩
end Go.Proofs.YtkemgccfdnbmpaaDoor
