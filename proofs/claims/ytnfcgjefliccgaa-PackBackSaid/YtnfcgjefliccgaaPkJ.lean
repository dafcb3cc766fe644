/- Walks of the document's reader: texts; the two readers made; one call of both. -/
import Derived.Test.YtnfcgjefliccgaaPkH
import Derived.Test.YtnfcgjefliccgaaPkI
import Derived.Test.YtnfcgjefliccgaaQg
namespace Go.Proofs.Ytnfcgjefliccgaa
open Go.RowKit

theorem xnumber_any (b : Nat) (l : List UInt8) (e : Int) (k : Nat) (w : World) (h : RAt w b 47 l e) (hk : k ≤ 8) :
    Calls Try.prog 36 #[.pointer (some ⟨b, 0, none⟩), .int .i64 (k : Int)] w fun r w' => r = .returned (.int .i64 (numR k l e).1) ∧ RNext w b 47 (numR k l e).2.1 (numR k l e).2.2 w' := by
  rcases Nat.lt_or_ge k 8 with h8 | h8
  · exact xnumber_low b l e k w h (by omega)
  · obtain rfl : k = 8 := by omega
    by_cases he : e = 0
    · by_cases hl : l.length < 8
      · exact xnumber_short b l e w h he hl
      · by_cases ht : (l.getD 0 0).toNat < 128
        · exact xnumber_fits b l e w h he (by omega) ht
        · exact xnumber_great b l e w h he (by omega) ht
    · exact xnumber_err b l e w h he
theorem numR_two (l : List UInt8) (h : ¬ l.length < 2) : numR 2 l 0 = ((numL (l.take 2) : Int), l.drop 2, 0) ∧ numL (l.take 2) ≤ 65535 := by
  have hb := numL_lt 2 (l.take 2) (by rw [List.length_take]; omega)
  have h2 : (256 : Nat) ^ 2 = 65536 := by decide
  refine ⟨?_, by omega⟩
  simp [numR, h, show ¬ 9223372036854775807 < numL (l.take 2) by omega]
set_option maxHeartbeats 1600000 in
set_option maxRecDepth 100000 in
theorem xtext_any (b : Nat) (l : List UInt8) (e most : Int) (w : World) (h : RAt w b 47 l e) :
    Calls Try.prog 37 #[.pointer (some ⟨b, 0, none⟩), .int .i64 most] w fun r w' => r = .returned (.string (btx (textR most l e).1)) ∧ RNext w b 47 (textR most l e).2.1 (textR most l e).2.2 w' := by
  have c0 : w.cell? ⟨b, 0, none⟩ = some (.string (btx l)) := h.cell 0
  have hNum := xnumber_any b l e 2 w h (by omega)
  by_cases he : e = 0
  · subst he
    by_cases hlt : l.length < 2
    · have hR : textR most l 0 = ([], l, 2) := by simp [textR, hlt]
      have hN2 : numR 2 l 0 = (0, l, 2) := by simp [numR, hlt]
      rw [hR]
      rw [hN2] at hNum
      replace hNum := Box.mk hNum
      clear hR hN2
      go_enter Try.func37, Try.ntmps37
      go_wp2_with fail
      refine hNum.out.mono ?_
      rintro r w1 ⟨rfl, hN⟩
      have c1 : w1.cell? ⟨b, 1, none⟩ = some (.int .i64 2) := hN.at_.cell 1
      replace hN := Box.mk hN
      go_wp2_with fail
      go_returns
      exact ⟨rfl, hN.out⟩
    · obtain ⟨hN2, hb⟩ := numR_two l hlt
      rw [hN2] at hNum
      obtain ⟨n, hn⟩ : ∃ n, numL (l.take 2) = n := ⟨_, rfl⟩
      rw [hn] at hNum hb
      obtain ⟨M, hM⟩ : ∃ M, (if most < 0 then 0 else most) = M := ⟨_, rfl⟩
      replace hNum := Box.mk hNum
      clear hN2
      by_cases hbig : M < n
      · have hR : textR most l 0 = ([], l, 4) := by simp [textR, hlt, hn, hM, hbig]
        rw [hR]
        clear hR hn
        go_enter Try.func37, Try.ntmps37
        go_wp2_with fail
        refine hNum.out.mono ?_
        rintro r w1 ⟨rfl, hN⟩
        have c1 : w1.cell? ⟨b, 1, none⟩ = some (.int .i64 0) := hN.at_.cell 1
        have hF := xfail_any b (l.drop 2) 0 4 w1 hN.at_
        replace hF := Box.mk hF
        replace hN := Box.mk hN
        go_wp2_with fail
        refine hF.out.mono ?_
        rintro r w2 ⟨rfl, hN2⟩
        have hX := xraw_any b (l.drop 2) 4 n w2 hN2.at_
        rw [show rawR n (l.drop 2) 4 = ([], l.drop 2, 4) by simp [rawR]] at hX
        replace hX := Box.mk hX
        replace hN2 := Box.mk hN2
        go_wp2_with fail
        refine hX.out.mono ?_
        rintro r w3 ⟨rfl, hN3⟩
        have c3 : w3.cell? ⟨b, 1, none⟩ = some (.int .i64 4) := hN3.at_.cell 1
        have k3 : (w3.cell? ⟨b, 0, none⟩) = some (.string (btx (l.drop 2))) := hN3.at_.cell 0
        have f3 := hN3.at_.free 0
        replace hN3 := Box.mk hN3
        go_wp2_with fail
        go_returns
        exact ⟨rfl, (hN.out.trans (hN2.out.trans hN3.out)).left l⟩
      · by_cases hsh : l.length < 2 + n
        · have hR : textR most l 0 = ([], l, 2) := by simp [textR, hlt, hn, hM, hbig, hsh]
          rw [hR]
          clear hR hn
          go_enter Try.func37, Try.ntmps37
          go_wp2_with fail
          refine hNum.out.mono ?_
          rintro r w1 ⟨rfl, hN⟩
          have c1 : w1.cell? ⟨b, 1, none⟩ = some (.int .i64 0) := hN.at_.cell 1
          have hX := xraw_any b (l.drop 2) 0 n w1 hN.at_
          rw [show rawR n (l.drop 2) 0 = ([], l.drop 2, 2) by rw [rawR, if_neg (by decide), if_neg (by omega), if_pos (by rw [List.length_drop]; omega)]] at hX
          replace hX := Box.mk hX
          replace hN := Box.mk hN
          go_wp2_with fail
          refine hX.out.mono ?_
          rintro r w3 ⟨rfl, hN3⟩
          have c3 : w3.cell? ⟨b, 1, none⟩ = some (.int .i64 2) := hN3.at_.cell 1
          have k3 : (w3.cell? ⟨b, 0, none⟩) = some (.string (btx (l.drop 2))) := hN3.at_.cell 0
          have f3 := hN3.at_.free 0
          replace hN3 := Box.mk hN3
          go_wp2_with fail
          go_returns
          exact ⟨rfl, (hN.out.trans hN3.out).left l⟩
        · have hR : textR most l 0 = ((l.take (2 + n)).drop 2, l.drop (2 + n), 0) := by simp [textR, hlt, hn, hM, hbig, hsh]
          rw [hR]
          clear hR hn
          go_enter Try.func37, Try.ntmps37
          go_wp2_with fail
          refine hNum.out.mono ?_
          rintro r w1 ⟨rfl, hN⟩
          have c1 : w1.cell? ⟨b, 1, none⟩ = some (.int .i64 0) := hN.at_.cell 1
          have hX := xraw_any b (l.drop 2) 0 n w1 hN.at_
          rw [show rawR n (l.drop 2) 0 = ((l.take (2 + n)).drop 2, l.drop (2 + n), 0) by
            rw [rawR, if_neg (by decide), if_neg (by omega), if_neg (by rw [List.length_drop]; omega), List.drop_drop, List.drop_take]; simp] at hX
          replace hX := Box.mk hX
          replace hN := Box.mk hN
          go_wp2_with fail
          refine hX.out.mono ?_
          rintro r w3 ⟨rfl, hN3⟩
          have c3 : w3.cell? ⟨b, 1, none⟩ = some (.int .i64 0) := hN3.at_.cell 1
          replace hN3 := Box.mk hN3
          go_wp2_with fail
          go_returns
          exact ⟨rfl, hN.out.trans hN3.out⟩
  · have hR : textR most l e = ([], l, e) := by simp [textR, he]
    have hN2 : numR 2 l e = (0, l, e) := by simp [numR, he]
    have hf : (e == 0) = false := by simpa using he
    rw [hR]
    rw [hN2] at hNum
    replace hNum := Box.mk hNum
    clear hR hN2
    go_enter Try.func37, Try.ntmps37
    go_wp2_with fail
    refine hNum.out.mono ?_
    rintro r w1 ⟨rfl, hN⟩
    have c1 : w1.cell? ⟨b, 1, none⟩ = some (.int .i64 e) := hN.at_.cell 1
    replace hN := Box.mk hN
    go_wp2_with fail
    go_returns
    exact ⟨rfl, hN.out⟩
set_option maxHeartbeats 400000 in
theorem read_new (s : ByteArray) (w : World) :
    Calls Try.prog 11 #[.string s] w fun e w' => e = .returned (.pointer (some ⟨w.heap.size, 0, none⟩)) ∧ RAt w' w.heap.size 43 s.data.toList 0 ∧ Below w.heap.size w w' := by
  go_enter Try.func11, Try.ntmps11
  go_wp2
  go_returns
  exact ⟨rfl, Blk.new w [.string s, .int .i64 0] _, (Below.refl _ _).alloc (Nat.le_refl _) _⟩
set_option maxHeartbeats 400000 in
theorem xread_new (s : ByteArray) (w : World) :
    Calls Try.prog 12 #[.string s] w fun e w' => e = .returned (.pointer (some ⟨w.heap.size, 0, none⟩)) ∧ RAt w' w.heap.size 47 s.data.toList 0 ∧ Below w.heap.size w w' := by
  go_enter Try.func12, Try.ntmps12
  go_wp2
  go_returns
  exact ⟨rfl, Blk.new w [.string s, .int .i64 0] _, (Below.refl _ _).alloc (Nat.le_refl _) _⟩
end Go.Proofs.Ytnfcgjefliccgaa
