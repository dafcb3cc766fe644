/- Walks of a reader's calls: texts, bytes, the end. -/
import Derived.Test.YtoaipjpbioaneaaGreatPkE
namespace Go.Proofs.YtoaipjpbioaneaaGreat
open Go.RowKit

theorem has_bad (l : List UInt8) (e n : Int) (he : e ≠ 0) : hasE l e n = e := by rw [hasE, failE, if_neg he]; split <;> rfl
theorem has_ok (l : List UInt8) (n : Int) (h : ¬ (l.length : Int) < n) : hasE l 0 n = 0 := by rw [hasE, if_neg h]
theorem has_short (l : List UInt8) (n : Int) (h : (l.length : Int) < n) : hasE l 0 n = 2 := by rw [hasE, if_pos h]; rfl
/-- What n bytes read: the answer, what is left, the error. -/
def rawR (n : Int) (l : List UInt8) (e : Int) : List UInt8 × List UInt8 × Int :=
  if e ≠ 0 then ([], l, e) else if n < 0 then ([], l, 1) else if (l.length : Int) < n then ([], l, 2) else (l.take n.toNat, l.drop n.toNat, 0)
/-- What a text of at most so many bytes reads. -/
def textR (most : Int) (l : List UInt8) (e : Int) : List UInt8 × List UInt8 × Int :=
  if e ≠ 0 then ([], l, e) else if l.length < 2 then ([], l, 2) else if (if most < 0 then 0 else most) < (numL (l.take 2) : Int) then ([], l, 4)
  else if l.length < 2 + numL (l.take 2) then ([], l, 2) else ((l.take (2 + numL (l.take 2))).drop 2, l.drop (2 + numL (l.take 2)), 0)
theorem empty_btx : ByteArray.empty = btx [] := rfl

set_option maxHeartbeats 400000 in
theorem rtwo_any (b : Nat) (l : List UInt8) (e : Int) (w : World) (h : RAt w b 153 l e) :
    Calls Tryz.prog 92 #[.pointer (some ⟨b, 0, none⟩)] w fun r w' => r = .returned (.int .i64 (numR 2 l e).1) ∧ RNext w b 153 (numR 2 l e).2.1 (numR 2 l e).2.2 w' := by
  have h1 := rnumber_any b l e 2 w h (by omega)
  generalize numR 2 l e = x at h1 ⊢
  replace h1 := Box.mk h1
  go_enter Tryz.func92, Tryz.ntmps92
  go_wp2_with fail
  refine h1.out.mono ?_
  rintro r w' ⟨rfl, hN⟩
  replace hN := Box.mk hN
  go_wp2_with fail
  go_returns
  exact ⟨rfl, hN.out⟩
set_option maxHeartbeats 400000 in
theorem rfour_any (b : Nat) (l : List UInt8) (e : Int) (w : World) (h : RAt w b 153 l e) :
    Calls Tryz.prog 69 #[.pointer (some ⟨b, 0, none⟩)] w fun r w' => r = .returned (.int .i64 (numR 4 l e).1) ∧ RNext w b 153 (numR 4 l e).2.1 (numR 4 l e).2.2 w' := by
  have h1 := rnumber_any b l e 4 w h (by omega)
  generalize numR 4 l e = x at h1 ⊢
  replace h1 := Box.mk h1
  go_enter Tryz.func69, Tryz.ntmps69
  go_wp2_with fail
  refine h1.out.mono ?_
  rintro r w' ⟨rfl, hN⟩
  replace hN := Box.mk hN
  go_wp2_with fail
  go_returns
  exact ⟨rfl, hN.out⟩
set_option maxHeartbeats 400000 in
theorem reight_any (b : Nat) (l : List UInt8) (e : Int) (w : World) (h : RAt w b 153 l e) :
    Calls Tryz.prog 68 #[.pointer (some ⟨b, 0, none⟩)] w fun r w' => r = .returned (.int .i64 (numR 8 l e).1) ∧ RNext w b 153 (numR 8 l e).2.1 (numR 8 l e).2.2 w' := by
  have h1 := rnumber_any b l e 8 w h (by omega)
  generalize numR 8 l e = x at h1 ⊢
  replace h1 := Box.mk h1
  go_enter Tryz.func68, Tryz.ntmps68
  go_wp2_with fail
  refine h1.out.mono ?_
  rintro r w' ⟨rfl, hN⟩
  replace hN := Box.mk hN
  go_wp2_with fail
  go_returns
  exact ⟨rfl, hN.out⟩
/-- The end's error. -/
def endE (l : List UInt8) (e : Int) : Int := if 0 < l.length then failE e 3 else e
set_option maxHeartbeats 400000 in
theorem end_any (b : Nat) (l : List UInt8) (e : Int) (w : World) (h : RAt w b 153 l e) :
    Calls Tryz.prog 94 #[.pointer (some ⟨b, 0, none⟩)] w fun r w' => r = .returned (.int .i64 (endE l e)) ∧ RNext w b 153 l (endE l e) w' := by
  have h1 := left_any b l e w h
  have h2 := fail_any b l e 3 w h
  have h3 := err_any b l e w h
  replace h := Box.mk h
  by_cases hlt : 0 < l.length
  · rw [endE, if_pos hlt]
    replace h2 := Box.mk h2
    go_enter Tryz.func94, Tryz.ntmps94
    go_wp2_with fail
    refine h1.mono ?_
    rintro r w' ⟨rfl, rfl⟩
    go_wp2_with fail
    refine h2.out.mono ?_
    rintro r w' ⟨rfl, hR⟩
    have h4 := err_any b l _ w' hR.at_
    replace hR := Box.mk hR
    go_wp2_with fail
    refine h4.mono ?_
    rintro r w2 ⟨rfl, rfl⟩
    go_wp2_with fail
    go_returns
    exact ⟨rfl, hR.out⟩
  · rw [endE, if_neg hlt]
    go_enter Tryz.func94, Tryz.ntmps94
    go_wp2_with fail
    refine h1.mono ?_
    rintro r w' ⟨rfl, rfl⟩
    go_wp2_with fail
    refine h3.mono ?_
    rintro r w2 ⟨rfl, rfl⟩
    go_wp2_with fail
    go_returns
    exact ⟨rfl, RNext.same h.out⟩
set_option maxHeartbeats 1600000 in
set_option maxRecDepth 100000 in
theorem rtext_any (b : Nat) (l : List UInt8) (e most : Int) (w : World) (h : RAt w b 153 l e) :
    Calls Tryz.prog 93 #[.pointer (some ⟨b, 0, none⟩), .int .i64 most] w fun r w' => r = .returned (.string (btx (textR most l e).1)) ∧ RNext w b 153 (textR most l e).2.1 (textR most l e).2.2 w' := by
  have h1 := has_any b l e 2 w h
  by_cases he : e = 0
  · subst he
    by_cases hlt : l.length < 2
    · rw [has_short l 2 (by omega)] at h1
      have hR : textR most l 0 = ([], l, 2) := by simp [textR, hlt]
      rw [hR]
      replace h1 := Box.mk h1
      clear hR
      go_enter Tryz.func93, Tryz.ntmps93
      go_wp2_with fail
      refine h1.out.mono ?_
      rintro r w' ⟨rfl, hN⟩
      replace hN := Box.mk hN
      go_wp2_with fail
      go_returns
      exact ⟨rfl, hN.out⟩
    · rw [has_ok l 2 (by omega)] at h1
      have hx : (btx l).extract 0 2 = btx (l.take 2) := by rw [mk_cut]; rfl
      have hs := mk_size l
      obtain ⟨n, hn⟩ : ∃ n, numL (l.take 2) = n := ⟨_, rfl⟩
      have hv := fun w => value_any (l.take 2) w (by rw [List.length_take]; omega)
      rw [hn] at hv
      have hb := numL_lt 2 (l.take 2) (by rw [List.length_take]; omega)
      rw [hn] at hb
      have hwn : IntKind.i64.wrap (n : Int) = (n : Int) := by rw [IntKind.wrap_i64]; omega
      have hw2 : IntKind.i64.wrap (2 + (n : Int)) = 2 + (n : Int) := by rw [IntKind.wrap_i64]; omega
      obtain ⟨M, hM⟩ : ∃ M, (if most < 0 then 0 else most) = M := ⟨_, rfl⟩
      by_cases hbig : M < n
      · have hR : textR most l 0 = ([], l, 4) := by simp [textR, hlt, hn, hM, hbig]
        rw [hR]
        replace h1 := Box.mk h1
        clear hR hn hb
        go_enter Tryz.func93, Tryz.ntmps93
        go_wp2_with fail
        refine h1.out.mono ?_
        rintro r w1 ⟨rfl, hN⟩
        have c0 : w1.cell? ⟨b, 0, none⟩ = some (.string (btx l)) := hN.at_.cell 0
        have hF := fail_any b l 0 4 w1 hN.at_
        replace hF := Box.mk hF
        replace hN := Box.mk hN
        go_wp2_with fail
        refine (hv w1).mono ?_
        rintro r w2 ⟨rfl, rfl⟩
        go_wp2_with fail
        refine hF.out.mono ?_
        rintro r w3 ⟨rfl, hN3⟩
        replace hN3 := Box.mk hN3
        go_wp2_with fail
        go_returns
        exact ⟨rfl, hN.out.trans hN3.out⟩
      · by_cases hsh : l.length < 2 + n
        · have hR : textR most l 0 = ([], l, 2) := by simp [textR, hlt, hn, hM, hbig, hsh]
          rw [hR]
          replace h1 := Box.mk h1
          clear hR hn hb
          go_enter Tryz.func93, Tryz.ntmps93
          go_wp2_with fail
          refine h1.out.mono ?_
          rintro r w1 ⟨rfl, hN⟩
          have c0 : w1.cell? ⟨b, 0, none⟩ = some (.string (btx l)) := hN.at_.cell 0
          have hF := has_any b l 0 (2 + (n : Int)) w1 hN.at_
          rw [has_short l _ (by omega)] at hF
          replace hF := Box.mk hF
          replace hN := Box.mk hN
          go_wp2_with fail
          refine (hv w1).mono ?_
          rintro r w2 ⟨rfl, rfl⟩
          go_wp2_with fail
          refine hF.out.mono ?_
          rintro r w3 ⟨rfl, hN3⟩
          replace hN3 := Box.mk hN3
          go_wp2_with fail
          go_returns
          exact ⟨rfl, hN.out.trans hN3.out⟩
        · have hR : textR most l 0 = ((l.take (2 + n)).drop 2, l.drop (2 + n), 0) := by simp [textR, hlt, hn, hM, hbig, hsh]
          rw [hR]
          have hs3 : (btx (l.take (2 + n))).size = 2 + n := by rw [mk_size, List.length_take]; omega
          have hx3 : (btx (l.take (2 + n))).extract 2 (2 + n) = btx ((l.take (2 + n)).drop 2) := by rw [mk_cut, List.take_of_length_le (by rw [List.length_take]; omega)]
          replace h1 := Box.mk h1
          clear hR hn hb
          go_enter Tryz.func93, Tryz.ntmps93
          go_wp2_with fail
          refine h1.out.mono ?_
          rintro r w1 ⟨rfl, hN⟩
          have c0 : w1.cell? ⟨b, 0, none⟩ = some (.string (btx l)) := hN.at_.cell 0
          have hF := has_any b l 0 (2 + (n : Int)) w1 hN.at_
          rw [has_ok l _ (by omega)] at hF
          replace hF := Box.mk hF
          replace hN := Box.mk hN
          go_wp2_with fail
          refine (hv w1).mono ?_
          rintro r w2 ⟨rfl, rfl⟩
          go_wp2_with fail
          refine hF.out.mono ?_
          rintro r w3 ⟨rfl, hN3⟩
          have hX := next_any b l 0 (2 + n) w3 hN3.at_ (by omega)
          rw [show ((2 + n : Nat) : Int) = 2 + (n : Int) by omega] at hX
          replace hN3 := Box.mk hN3
          replace hX := Box.mk hX
          go_wp2_with fail
          refine hX.out.mono ?_
          rintro r w4 ⟨rfl, hN4⟩
          replace hN4 := Box.mk hN4
          go_wp2_with fail
          go_returns
          exact ⟨rfl, (hN.out.trans hN3.out).trans hN4.out⟩
  · have hR : textR most l e = ([], l, e) := by simp [textR, he]
    have hf : (e == 0) = false := by simpa using he
    rw [has_bad l e 2 he] at h1
    rw [hR]
    replace h1 := Box.mk h1
    clear hR
    go_enter Tryz.func93, Tryz.ntmps93
    go_wp2_with fail
    refine h1.out.mono ?_
    rintro r w' ⟨rfl, hN⟩
    replace hN := Box.mk hN
    go_wp2_with fail
    go_returns
    exact ⟨rfl, hN.out⟩
end Go.Proofs.YtoaipjpbioaneaaGreat
