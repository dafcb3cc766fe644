/- Walk of the law PackBack: more than 300 operations. -/
import Derived.Test.YtnfcgjefliccgaaPbD
namespace Go.Proofs.Ytnfcgjefliccgaa
open Go.RowKit

set_option maxHeartbeats 3200000 in
set_option maxRecDepth 100000 in
theorem back_gt (ca : Option Addr) (L C : Nat) (w : World) (hL : 300 < L) (hLC : L ≤ C)
    (hcut : 0 < L → ∃ cb co, ca = some ⟨cb, co, none⟩ ∧ cb < w.heap.size ∧ ∀ i, i < L → ∃ (k : UInt8) (n : Int) (s : ByteArray), w.cell? ⟨cb, co + i * 3, none⟩ = some (.int .u8 (k.toNat : Int)) ∧ w.cell? ⟨cb, co + i * 3 + 1, none⟩ = some (.int .i64 n) ∧ w.cell? ⟨cb, co + i * 3 + 2, none⟩ = some (.string s) ∧ -9223372036854775808 ≤ n ∧ n ≤ 9223372036854775807) :
    Calls Try.prog 5 #[.slice ca L C] w fun e w' => e = .returned (.bool true) ∧ Below w.heap.size w w' := by
  have hH := lays_any w
  replace hcut := Box.mk hcut
  go_enter Try.func5, Try.ntmps5
  go_wp2_with fail
  refine hH.mono ?_
  rintro e w1 ⟨rfl, hb1⟩
  clear hH
  obtain ⟨w2, hw2⟩ : ∃ w2, w1.alloc (.cells #[.slice none 0 0, .bool false] 26) = w2 := ⟨_, rfl⟩
  have hP : Box (PB w w1.heap.size (.slice none 0 0) [] [] w2) := by
    have a1 : WAt w2 w1.heap.size 26 (.slice none 0 0) [] false := hw2 ▸ new_writer w1 _
    have b2 : Below w.heap.size w w2 := hw2 ▸ hb1.alloc hb1.size _
    exact ⟨⟨⟨_, a1, fun k hk => by cases hk⟩, World.ownsRow_nil _ _ _ _, b2, hb1.size⟩⟩
  go_wp2_with fail
  generalize w1.heap.size = bw at hP ⊢
  clear hb1 hw2
  go_loopw [4, 18] (fun s4 s18 wr => ∃ (i : Nat) (os : List OpM), i ≤ L ∧ i ≤ 300 ∧ s18 = .int .i64 i ∧ Box (os.length ≤ i) ∧ Box ((flatO os).length ≤ i * 65537) ∧ Box (∀ o ∈ os, o.ok = true ∧ o.n ≤ 9223372036854775807) ∧ Box (PB w bw s4 os (flatO os) wr)) (fun _ s18 _ => L - (intOf s18).toNat)
  case atStart => exact ⟨0, [], by omega, by omega, rfl, ⟨by simp⟩, ⟨by simp [flatO]⟩, ⟨fun o ho => by cases ho⟩, hP⟩
  case round =>
    clear hP
    obtain ⟨i, os, hi, hi5, rfl, hol, hll, hok, hP⟩ := hrel
    by_cases hlt : i < L ∧ i < 300
    · obtain ⟨q1, q2⟩ := hlt
      obtain ⟨cb, co, rfl, hcb, hcs⟩ := hcut.out (by omega)
      obtain ⟨k, n, s, d0, d1, d2, hn⟩ := hcs i q1
      rw [← hP.out.k.cell (p := ⟨cb, _, none⟩) hcb] at d0 d1 d2
      have hltb := hP.out.lt
      have hnew := Blk.new wr [.int .u8 (k.toNat : Int), .int .i64 n, .string s] 31
      obtain ⟨wb, hwb⟩ : ∃ wb, wr.alloc (.cells #[.int .u8 (k.toNat : Int), .int .i64 n, .string s] 31) = wb := ⟨_, rfl⟩
      have hPb : Box (PB w bw u4 os (flatO os) wb) := ⟨hwb ▸ hP.out.keep ((Below.refl _ _).alloc (Nat.le_refl _) _)⟩
      rw [hwb] at hnew
      obtain ⟨bo, hbo⟩ : ∃ bo, wr.heap.size = bo := ⟨_, rfl⟩
      have hbr : Box (bo ≠ bw) := ⟨by omega⟩
      rw [hbo] at hnew
      have hob := hnew.lt
      have c0 : wb.cell? ⟨bo, 0, none⟩ = some (.int .u8 (k.toNat : Int)) := hnew.cell 0
      have c1 : wb.cell? ⟨bo, 1, none⟩ = some (.int .i64 n) := hnew.cell 1
      have c2 : wb.cell? ⟨bo, 2, none⟩ = some (.string s) := hnew.cell 2
      have hR1 := Box.mk (first_lay (wb := wb) k n s hn)
      replace hnew := Box.mk hnew
      replace hn := Box.mk hn
      clear hltb hP hcs
      go_wp2_with fail
      refine hR1.out.mono ?_
      rintro r w6 ⟨rfl, hX6, hb6⟩
      have hP6 := Box.mk (hPb.out.keep hb6.out)
      have hn6 : Blk w6 bo _ _ := (hb6.out.block bo hob).trans hnew.out
      have e0 : w6.cell? ⟨bo, 0, none⟩ = some (.int .u8 (k.toNat : Int)) := hn6.cell 0
      have e1 : w6.cell? ⟨bo, 1, none⟩ = some (.int .i64 n) := hn6.cell 1
      have e2 : w6.cell? ⟨bo, 2, none⟩ = some (.string s) := hn6.cell 2
      have b1 : w6.cell? ⟨wb.heap.size, 1, none⟩ = some (.bool (!opOk k n s)) := by
        obtain ⟨x, hxa, _⟩ := hX6.out.out
        exact hxa.blk.cell 1
      clear hR1 c0 c1 c2 d0 d1 d2 hwb
      cases hoc : opOk k n s with
      | false =>
        rw [hoc] at b1
        have h1 : Box (os.length ≤ i + 1) := ⟨by have := hol.out; omega⟩
        have h2 : Box ((flatO os).length ≤ (i + 1) * 65537) := ⟨Nat.le_trans hll.out (Nat.mul_le_mul_right _ (by omega))⟩
        clear hX6 hn6 hnew hob
        go_wp2_with fail
        exact ⟨⟨i + 1, os, by omega, by omega, by go_num, h1, h2, hok, hP6⟩, by simp [intOf]; omega⟩
      | true =>
        rw [hoc] at b1 hX6
        have hlx : (laysX true (opL k n s) []).length ≤ 65537 := by
          have := opL_le k n s hoc
          simpa [laysX] using this
        have hR2 := hP6.out.lay hX6.out hPb.out k n s hn.out hoc (by have := hll.out; omega) hlx hb6.out bo _ hn6 ⟨hbr.out, hob⟩
        have hfl : Box (flatO os ++ opL k n s = flatO (os ++ [OpM.mk k n s])) := ⟨by rw [flatO_snoc]; rfl⟩
        rw [hfl.out] at hR2
        have hfll : Box ((flatO (os ++ [OpM.mk k n s])).length ≤ (i + 1) * 65537) := ⟨by
          have h1 := opL_le k n s hoc
          have h2 := hll.out
          rw [← hfl.out, List.length_append]; omega⟩
        have hokk : Box (∀ o ∈ os ++ [OpM.mk k n s], o.ok = true ∧ o.n ≤ 9223372036854775807) := ⟨by
          intro o ho
          rcases List.mem_append.1 ho with h | h
          · exact hok.out o h
          · obtain rfl : o = OpM.mk k n s := by simpa using h
            exact ⟨hoc, hn.out.2⟩⟩
        have holl : Box ((os ++ [OpM.mk k n s]).length ≤ i + 1) := ⟨by have := hol.out; rw [List.length_append, List.length_singleton]; omega⟩
        have hos : Box (os.length ≤ 1000) := ⟨by have := hol.out; omega⟩
        replace hR2 := Box.mk hR2
        replace hoc := Box.mk hoc
        clear hlx hX6 hn6 hnew hob hP6 hb6 hPb hok hll hol
        go_wp2_with fail
        refine hR2.out.mono ?_
        rintro r w7 ⟨rfl, hP7, hn7⟩
        have f0 : w7.cell? ⟨bo, 0, none⟩ = some (.int .u8 (k.toNat : Int)) := hn7.cell 0
        have f1 : w7.cell? ⟨bo, 1, none⟩ = some (.int .i64 n) := hn7.cell 1
        have f2 : w7.cell? ⟨bo, 2, none⟩ = some (.string s) := hn7.cell 2
        have hP8 : Box (PB w bw u4 os (flatO (os ++ [OpM.mk k n s])) (w7.alloc (.cells #[.int .u8 (k.toNat : Int), .int .i64 n, .string s] 31))) := ⟨hP7.out.keep ((Below.refl _ _).alloc (Nat.le_refl _) _)⟩
        have hc8 : Box (∀ j, j < 3 → (w7.alloc (.cells #[.int .u8 (k.toNat : Int), .int .i64 n, .string s] 31)).cell? ⟨w7.heap.size, j, none⟩ = (OpM.mk k n s).cells[j]?) := ⟨fun j _ => (Blk.new w7 [.int .u8 (k.toNat : Int), .int .i64 n, .string s] 31).cell j⟩
        clear hR2 e0 e1 e2 hP7 hn7 b1
        go_wp2_with (refine PB.wpList_fit rfl (.tmp 37) (.tmp 39) rfl rfl hP8.out w7.heap.size (OpM.mk k n s) rfl hc8.out hos.out ?_; intro v9 w9 hP9; replace hP9 := Box.mk hP9)
        exact ⟨⟨i + 1, os ++ [OpM.mk k n s], by omega, by omega, by go_num, holl, hfll, hokk, hP9⟩, by simp [intOf]; omega⟩
    · have hend : ¬ i < 300 := by omega
      obtain ⟨fa, fc, hfv, hcc⟩ := hP.out.cut
      subst hfv
      obtain ⟨v, hv, _⟩ := hP.out.wr
      have hB := bytes_any bw v (flatO os) false wr hv
      obtain ⟨S, hS⟩ : ∃ S : ByteArray, (⟨(flatO os).toArray⟩ : ByteArray) = S := ⟨_, rfl⟩
      have hSd : S.data.toList = flatO os := by rw [← hS]
      rw [show bytesR (flatO os) false = .tuple #[.string ⟨(flatO os).toArray⟩, .int .i64 0] from rfl, hS] at hB
      obtain ⟨N, hN⟩ : ∃ N, os.length = N := ⟨_, rfl⟩
      have hN3 : N ≤ 1000 := by have := hol.out; omega
      rw [hN] at hP ⊢
      have hS1 := same_any S [] os fa fc N wr (by rw [List.append_nil, hSd]) (by simp) hN hN3 hok.out (fun h => hcc (by omega))
      replace hB := Box.mk hB
      replace hS1 := Box.mk hS1
      replace hN := Box.mk hN
      clear hcc hv hS hcut
      go_wp2_with fail
      refine hB.out.mono ?_
      rintro r w' ⟨rfl, rfl⟩
      clear hB
      go_wp2_with fail
      refine hS1.out.mono ?_
      rintro r w3 ⟨rfl, hb3⟩
      clear hS1
      have hP3 := hP.out.keep hb3
      have hc3 := hP3.cut2.2
      have hSz : S.size ≤ 19661100 := by
        have h1 := hll.out
        rw [← data_len, hSd]
        exact Nat.le_trans h1 (Nat.mul_le_mul_right 65537 hi5)
      by_cases hz : S.size = 0
      · have hfin := Box.mk hP3.k
        clear hP3 hc3 hP hb3
        go_wp2_with fail
        go_ret
        exact ⟨rfl, hfin.out⟩
      · have hfin := Box.mk hP3.k
        have hsz : S.size = (flatO os).length := by rw [← hSd, data_len]
        have hsl : (S.extract 0 (S.size - 1)).data.toList = (flatO os).dropLast := by
          rw [ByteArray.data_extract, Array.toList_extract, List.extract_eq_take_drop, List.drop_zero, hSd, hsz, Nat.sub_zero, List.dropLast_eq_take]
        have hne : flatO os ≠ [] := by intro h; rw [h] at hsz; exact hz hsz
        obtain ⟨S2, hS2⟩ : ∃ S2, S.extract 0 (S.size - 1) = S2 := ⟨_, rfl⟩
        rw [hS2] at hsl
        have hS3 := same_any S2 [(flatO os).getLast hne] os fa fc N w3 (by rw [hsl, List.dropLast_concat_getLast]) (by simp) hN.out hN3 hok.out (fun h => hc3 (by have := hN.out; omega))
        have hsb : ((S.size : Int) == 0) = false := by rw [beq_eq_false_iff_ne]; omega
        have hs1 : (S.size : Int) - 1 = ((S.size - 1 : Nat) : Int) := by omega
        have hsle : S.size - 1 ≤ S.size := by omega
        replace hS3 := Box.mk hS3
        clear hP3 hc3 hP hb3 hsz hsl hSd hok
        go_wp2_with fail
        refine hS3.out.mono ?_
        rintro r w4 ⟨rfl, hb4⟩
        have hfin2 := Box.mk (hfin.out.trans (hb4.mono hfin.out.size))
        clear hS3 hb4
        go_wp2_with fail
        go_ret
        exact ⟨rfl, hfin2.out⟩
end Go.Proofs.Ytnfcgjefliccgaa
