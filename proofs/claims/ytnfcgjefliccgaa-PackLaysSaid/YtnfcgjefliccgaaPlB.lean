/- Walk of the law PackLays: more than 500 operations. -/
import Derived.Test.YtnfcgjefliccgaaPlA
namespace Go.Proofs.Ytnfcgjefliccgaa
open Go.RowKit

set_option maxHeartbeats 3200000 in
set_option maxRecDepth 100000 in
theorem lays_gt (ca : Option Addr) (L C : Nat) (w : World) (hL : 500 < L) (hLC : L ≤ C)
    (hcut : 0 < L → ∃ cb co, ca = some ⟨cb, co, none⟩ ∧ cb < w.heap.size ∧ ∀ i, i < L → ∃ (k : UInt8) (n : Int) (s : ByteArray), w.cell? ⟨cb, co + i * 3, none⟩ = some (.int .u8 (k.toNat : Int)) ∧ w.cell? ⟨cb, co + i * 3 + 1, none⟩ = some (.int .i64 n) ∧ w.cell? ⟨cb, co + i * 3 + 2, none⟩ = some (.string s) ∧ -9223372036854775808 ≤ n ∧ n ≤ 9223372036854775807) :
    Calls Try.prog 3 #[.slice ca L C] w fun e w' => e = .returned (.bool true) ∧ Below w.heap.size w w' := by
  have hH := lays_any w
  replace hcut := Box.mk hcut
  go_enter Try.func3, Try.ntmps3
  go_wp2_with fail
  refine hH.mono ?_
  rintro e w1 ⟨rfl, hb1⟩
  clear hH
  obtain ⟨w2, hw2⟩ : ∃ w2, w1.alloc (.cells #[.slice none 0 0, .bool false] 26) = w2 := ⟨_, rfl⟩
  obtain ⟨w3, hw3⟩ : ∃ w3, w2.alloc (.cells #[.slice none 0 0, .bool false] 28) = w3 := ⟨_, rfl⟩
  have hP : Box (PL w w1.heap.size w2.heap.size 0 w3) := by
    have a1 : WAt w2 w1.heap.size 26 _ _ _ := hw2 ▸ new_writer w1 _
    have a2 : WAt w3 w2.heap.size 28 _ _ _ := hw3 ▸ new_writer w2 _
    have a3 : WAt w3 w1.heap.size 26 _ _ _ := hw3 ▸ a1.alloc _
    have s1 := hb1.size
    have s2 : w1.heap.size ≤ w2.heap.size := by rw [← hw2]; simp
    have b2 : Below w.heap.size w w2 := hw2 ▸ hb1.alloc s1 _
    have b3 : Below w.heap.size w w3 := hw3 ▸ b2.alloc b2.size _
    have hno : ∀ k, (Value.slice none 0 0).ownBlock = some k → w.heap.size ≤ k := fun k hk => by cases hk
    have hbo : Both w3 w1.heap.size w2.heap.size (.slice none 0 0) (.slice none 0 0) [] [] false false := ⟨a3, a2, fun k hk => by cases hk⟩
    have hout : ∃ v x l lx bad, Both w3 w1.heap.size w2.heap.size v x l lx bad bad ∧ (bad = false → l = lx) ∧ l.length ≤ 0 * 65537 ∧ lx.length ≤ 0 * 65537 ∧ (∀ k, v.ownBlock = some k → w.heap.size ≤ k) ∧ ∀ k, x.ownBlock = some k → w.heap.size ≤ k :=
      ⟨_, _, _, _, _, hbo, fun _ => rfl, by simp, by simp, hno, hno⟩
    exact ⟨⟨hout, b3, s1, by omega⟩⟩
  go_wp2_with fail
  generalize w1.heap.size = bw at hP ⊢
  generalize w2.heap.size = bx at hP ⊢
  clear hb1 hw2 hw3
  go_loopw [22] (fun s22 wr => ∃ i : Nat, i ≤ L ∧ i ≤ 500 ∧ s22 = .int .i64 i ∧ Box (PL w bw bx i wr)) (fun s22 _ => L - (intOf s22).toNat)
  case atStart => exact ⟨0, by omega, by omega, rfl, hP⟩
  case round =>
    clear hP
    obtain ⟨i, hi, hi5, rfl, hP⟩ := hrel
    by_cases hlt : i < L ∧ i < 500
    · obtain ⟨q1, q2⟩ := hlt
      obtain ⟨cb, co, rfl, hcb, hcs⟩ := hcut.out (by omega)
      obtain ⟨k, n, s, d0, d1, d2, hn⟩ := hcs i q1
      rw [← hP.out.k.cell (p := ⟨cb, _, none⟩) hcb] at d0 d1 d2
      have hPa := Box.mk (hP.out.keep ((Below.refl _ _).alloc (Nat.le_refl _) (.cells #[.int .u8 (k.toNat : Int), .int .i64 n, .string s] 31)))
      have hltb := hP.out.lt
      have hnew := Blk.new wr [.int .u8 (k.toNat : Int), .int .i64 n, .string s] 31
      obtain ⟨bo, hbo⟩ : ∃ bo, wr.heap.size = bo := ⟨_, rfl⟩
      have hbr : bo ≠ bw ∧ bo ≠ bx := by omega
      rw [hbo] at hnew
      have hR1 := Box.mk (hPa.out.lay (by omega) k n s hn bo _ hnew hbr)
      replace hnew := Box.mk hnew
      replace hn := Box.mk hn
      replace hbr := Box.mk hbr
      clear hltb hP hcs hPa
      go_wp2_with fail
      refine hR1.out.mono ?_
      rintro r w6 ⟨rfl, hP6, hb6⟩
      have e0 : w6.cell? ⟨bo, 0, none⟩ = some (.int .u8 (k.toNat : Int)) := hb6.cell 0
      have e1 : w6.cell? ⟨bo, 1, none⟩ = some (.int .i64 n) := hb6.cell 1
      have e2 : w6.cell? ⟨bo, 2, none⟩ = some (.string s) := hb6.cell 2
      have hlo := hb6.lt
      have hR2 := Box.mk (hP6.out.layn k n s hn.out)
      clear hR1 hb6 d0 d1 d2 hnew
      go_wp2_with fail
      refine hR2.out.mono ?_
      rintro r w7 ⟨rfl, hP7⟩
      obtain ⟨t, e, b1, b2⟩ := hP7.out.bytes
      replace b1 := Box.mk b1
      replace b2 := Box.mk b2
      clear hR2 e0 e1 e2 hlo hP6
      go_wp2_with fail
      refine b1.out.mono ?_
      rintro r w' ⟨rfl, rfl⟩
      go_wp2_with fail
      refine b2.out.mono ?_
      rintro r w' ⟨rfl, rfl⟩
      clear b1 b2
      go_wp2_with fail
      exact ⟨⟨i + 1, by omega, by omega, by go_num, hP7⟩, by simp [intOf]; omega⟩
    · have hend : ¬ i < 500 := by omega
      go_wp2_with fail
      refine (bytes_nil wr).mono ?_
      rintro r w' ⟨rfl, rfl⟩
      go_wp2_with fail
      go_ret
      exact ⟨rfl, hP.out.k⟩
end Go.Proofs.Ytnfcgjefliccgaa
