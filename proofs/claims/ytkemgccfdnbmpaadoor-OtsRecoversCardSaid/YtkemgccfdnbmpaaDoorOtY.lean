/- Walk of the law OtsRecovers. -/
import Derived.Test.YtkemgccfdnbmpaaDoorOtU
import Derived.Test.YtkemgccfdnbmpaaDoorOtG
import Derived.Test.YtkemgccfdnbmpaaDoorZap
namespace Go.Proofs.YtkemgccfdnbmpaaDoor
open Go Go.RowKit

theorem wpList_ran {P : Program} {w : World} {ops : Array Oper} {rest : List Oper} {o : Oper} {a : Act} {Q : Exit → Act → World → Prop} (hgd : o.guard = none) (s x : Operand) (t u : TypeId)
    (ho : o.op = .call { callee := .builtin .append, args := #[s, x], argTypes := #[t, u] }) (v y : Value) (hs : a.eval s = v) (hx : a.eval x = y) (v' : Value) (w' : World)
    (hr : (Builtin.append_ #[t, u] o.type #[v, y]).run P w = .ok v' w') (h : wpList P ops Q rest (a.put o.dst v') w') : wpList P ops Q (o :: rest) a w := by
  refine wpList_plain hgd fun K hK' => ?_
  unfold Oper.wp
  simp [execOp, ho, resolve, invoke, builtin, hs, hx, hr, Result.andThen]
  exact hK' _ _ h
theorem bytesWorld_belowO (w : World) (e : TypeId) (s : ByteArray) : Below w.heap.size w (Lib.bytesWorld w e s) :=
  ⟨rfl, rfl, rfl, by rw [Lib.bytesWorld_size]; omega, fun k hk => Lib.bytesWorld_at_old w e s k hk⟩
/-- []byte(q) with 288 zeros behind it. -/
theorem long_any (q : ByteArray) (w : World) (ty : TypeId) (hq : q.size ≤ 140737488351232) : ∃ (v1 v2 : Value) (w1 w2 : World) (l : ByteArray), (convert 9 29 (.string q)).run Tryd.prog w = .ok v1 w1 ∧
    (Builtin.append_ #[29, 3] ty #[v1, .int .i64 288]).run Tryd.prog w1 = .ok v2 w2 ∧ (convert 29 9 v2).run Tryd.prog w2 = .ok (.string l) w2 ∧ 288 ≤ l.size ∧ Below w.heap.size w w2 := by
  have hcv := Lib.run_convert_string_bytes (P := Tryd.prog) w 9 29 5 q (u := .string) Tryd.underlying9 Tryd.underlying29 Tryd.underlying5
  have hO := OwnB.made w w.heap.size (Nat.le_refl _) q
  have hB := bytesWorld_belowO w 5 q
  obtain ⟨v2, w2, hr, hO2, hB2⟩ := hO.zeros ty (by simp) hB.size 288 (by omega) (by omega) (by rw [data_len]; omega)
  refine ⟨_, v2, _, w2, _, hcv, hr, hO2.text, ?_, hB.trans hB2⟩
  show 288 ≤ ((q.data.toList ++ List.replicate 288 0).toArray).size
  rw [List.size_toArray, List.length_append, List.length_replicate]
  omega

set_option maxHeartbeats 1600000 in
set_option maxRecDepth 100000 in
theorem law_recovers (t q : ByteArray) (n : Int) (w : World) (hK : KIs w) (ht : t.size ≤ 140737488351232) (hq : q.size ≤ 140737488351232) :
    Calls Tryd.prog 4 #[.int .i64 n, .string t, .string q] w fun e w' => e = .returned (.bool true) ∧ Below w.heap.size w w' := by
  have key : ∀ q : ByteArray, ∃ (p : ByteArray) (e : Int), (∀ w1, KIs w1 → Calls Tryd.prog 11 #[.int .i64 n, .string t, .string q] w1 fun e' w' => e' = .returned (.tuple #[.string p, .int .i64 e]) ∧ Below w1.heap.size w1 w') ∧
      (∀ w1, Calls Tryd.prog 12 #[.int .i64 n, .string t, .string q] w1 fun e' w' => e' = .returned (.tuple #[.string p, .int .i64 e]) ∧ Below w1.heap.size w1 w') := by
    intro q
    by_cases hn : n < 0 ∨ 65535 < n
    · exact ⟨_, _, fun w1 _ => recover_no t q n w1 hn, fun w1 => rrecover_no t q n w1 hn⟩
    · obtain ⟨m, rfl⟩ : ∃ m : Nat, n = (m : Int) := ⟨n.toNat, by omega⟩
      by_cases hq : q.size = 288
      · exact ⟨_, _, fun w1 hK1 => recover_ok t q m w1 hK1 (by omega) hq (by omega), fun w1 => rrecover_ok t q m w1 (by omega) hq ht⟩
      · exact ⟨_, _, fun w1 _ => recover_form t q m w1 (by omega) hq, fun w1 => rrecover_form t q m w1 (by omega) hq⟩
  obtain ⟨p, e, h1, h2⟩ := key q
  have h0 := signs_any w hK
  have hKB := Box.mk hK
  replace key := Box.mk key
  clear hK ht
  go_enter Tryd.func4, Tryd.ntmps4
  go_wp2_with fail
  refine h0.mono ?_
  clear h0
  rintro e0 w0 ⟨rfl, hb0⟩
  have hB0 : Box (Below w.heap.size w w0) := ⟨hb0⟩
  have hF := h1 w0 (hKB.out.below hB0.out hKB.out.lt)
  clear h1 hb0
  go_wp2_with fail
  refine hF.mono ?_
  clear hF
  rintro e0 w1 ⟨rfl, hb1⟩
  have hB1 : Box (Below w.heap.size w w1) := ⟨hB0.out.trans (hb1.mono hB0.out.size)⟩
  have hF := h2 w1
  clear h2 hb1 hB0
  go_wp2_with fail
  refine hF.mono ?_
  clear hF
  rintro e0 w2 ⟨rfl, hb2⟩
  have hB2 : Box (Below w.heap.size w w2) := ⟨hB1.out.trans (hb2.mono hB1.out.size)⟩
  obtain ⟨v1, v2, w3, w4, l, hl1, hl2, hl3, hl4, hb4⟩ := long_any q w2 29 hq
  have hB4 : Box (Below w.heap.size w w4) := ⟨hB2.out.trans (hb4.mono hB2.out.size)⟩
  obtain ⟨z, hz⟩ : ∃ z, l.extract 0 288 = z := ⟨_, rfl⟩
  obtain ⟨p2, e2, h3, h4⟩ := key.out z
  have hF := h3 w4 (hKB.out.below hB4.out hKB.out.lt)
  clear h3 hb2 hB1 hb4
  replace hl2 := Box.mk hl2
  go_wp2_with (refine wpList_ran rfl (.tmp 33) (.const (.int .i64 288)) 29 3 rfl v1 _ rfl rfl v2 w4 hl2.out ?_)
  refine hF.mono ?_
  clear hF
  rintro e0 w5 ⟨rfl, hb5⟩
  have hB5 : Box (Below w.heap.size w w5) := ⟨hB4.out.trans (hb5.mono hB4.out.size)⟩
  have hF := h4 w5
  clear h4 hb5 hB4 hl1 hl2 hl3
  go_wp2_with fail
  refine hF.mono ?_
  clear hF
  rintro e0 w6 ⟨rfl, hb6⟩
  have hB6 : Box (Below w.heap.size w w6) := ⟨hB5.out.trans (hb6.mono hB5.out.size)⟩
  clear hb6 hB5
  go_wp2_with fail
  go_ret
  exact ⟨rfl, hB6.out⟩
end Go.Proofs.YtkemgccfdnbmpaaDoor
