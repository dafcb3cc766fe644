/- Walks of a reader's calls, against one model of what they answer. -/
import Derived.Test.YtoaipjpbioaneaaGreatPkD
namespace Go.Proofs.YtoaipjpbioaneaaGreat
open Go.RowKit

/-- A text by its bytes. -/
def btx (l : List UInt8) : ByteArray := ⟨l.toArray⟩
theorem mk_size (l : List UInt8) : (btx l).size = l.length := rfl
theorem mk_data (s : ByteArray) : btx s.data.toList = s := rfl
theorem mk_list (l : List UInt8) : (btx l).data.toList = l := rfl
theorem mk_cut (l : List UInt8) (a b : Nat) : (btx l).extract a b = btx ((l.take b).drop a) := by
  apply ByteArray.ext
  apply Array.ext'
  rw [ByteArray.data_extract, Array.toList_extract, List.extract_eq_take_drop]
  show (l.drop a).take (b - a) = _
  rw [List.drop_take]; rfl
theorem mk_get (l : List UInt8) (i : Nat) (h : i < (btx l).size) : (btx l)[i] = l.getD i 0 := by
  have h' : i < l.length := h
  show l.toArray[i] = _
  simp [List.getD, h']
/-- The number that these bytes stand for. -/
def numL (l : List UInt8) : Nat := l.foldl (fun n x => n * 256 + x.toNat) 0
theorem numL_snoc (l : List UInt8) (x : UInt8) : numL (l ++ [x]) = numL l * 256 + x.toNat := by simp [numL]
theorem numL_take (l : List UInt8) (i : Nat) (h : i < l.length) : numL (l.take (i + 1)) = numL (l.take i) * 256 + (l.getD i 0).toNat := by
  rw [List.take_succ_eq_append_getElem h, numL_snoc]
  simp [List.getD, h]
theorem numL_lt : ∀ (k : Nat) (l : List UInt8), l.length = k → numL l < 256 ^ k
  | 0, l, h => by
    obtain rfl := List.length_eq_zero_iff.1 h
    decide
  | k + 1, l, h => by
    have h1 := numL_take l k (by omega)
    rw [List.take_of_length_le (by omega)] at h1
    have h2 := numL_lt k (l.take k) (by rw [List.length_take]; omega)
    have h3 := (l.getD k 0).toNat_lt
    rw [h1, Nat.pow_succ]; omega
theorem or_byte (n : Nat) (x : UInt8) : n * 256 ||| x.toNat = n * 256 + x.toNat := by
  have := Nat.two_pow_add_eq_or_of_lt (i := 8) x.toNat_lt n
  rw [show n * 256 = 2 ^ 8 * n by omega, ← this]

/-- A reader in block b. -/
def RAt (w : World) (b : Nat) (t : TypeId) (l : List UInt8) (e : Int) : Prop := Blk w b [.string (btx l), .int .i64 e] t
/-- What a reader's call leaves. -/
structure RNext (w : World) (b : Nat) (t : TypeId) (l : List UInt8) (e : Int) (w' : World) : Prop where
  at_ : RAt w' b t l e
  chg : Chg (fun k => k = b) w w'
theorem RNext.same {w : World} {b : Nat} {t : TypeId} {l : List UInt8} {e : Int} (h : RAt w b t l e) : RNext w b t l e w := ⟨h, Chg.refl _ _⟩
theorem RNext.trans {w w1 w2 : World} {b : Nat} {t : TypeId} {l l2 : List UInt8} {e e2 : Int} (h : RNext w b t l e w1) (k : RNext w1 b t l2 e2 w2) : RNext w b t l2 e2 w2 := ⟨k.at_, h.chg.trans k.chg fun _ _ h => h⟩
theorem RNext.err {w w1 : World} {b : Nat} {t : TypeId} {l : List UInt8} {e : Int} (h : RNext w b t l e w1) (e' : Int) : RNext w b t l e' (w1.setCell ⟨b, 1, none⟩ (.int .i64 e')) := ⟨h.at_.setCell 1 (.int .i64 e'), h.chg.setCell rfl _⟩
theorem RNext.left {w w1 : World} {b : Nat} {t : TypeId} {l : List UInt8} {e : Int} (h : RNext w b t l e w1) (l' : List UInt8) : RNext w b t l' e (w1.setCell ⟨b, 0, none⟩ (.string (btx l'))) := ⟨h.at_.setCell 0 (.string (btx l')), h.chg.setCell rfl _⟩

/-- The first error stays. -/
def failE (e e' : Int) : Int := if e = 0 then e' else e
set_option maxHeartbeats 400000 in
theorem fail_any (b : Nat) (l : List UInt8) (e e' : Int) (w : World) (h : RAt w b 153 l e) :
    Calls Tryz.prog 110 #[.pointer (some ⟨b, 0, none⟩), .int .i64 e'] w fun r w' => r = .returned (.tuple #[]) ∧ RNext w b 153 l (failE e e') w' := by
  have c1 : w.cell? ⟨b, 1, none⟩ = some (.int .i64 e) := h.cell 1
  have f1 := h.free 1
  replace h := Box.mk h
  by_cases h0 : e = 0
  · subst h0
    go_enter Tryz.func110, Tryz.ntmps110
    go_wp2
    go_returns
    exact ⟨rfl, (RNext.same h.out).err e'⟩
  · have h1 : (e == 0) = false := by simpa using h0
    go_enter Tryz.func110, Tryz.ntmps110
    go_wp2
    go_returns
    refine ⟨rfl, ?_⟩
    rw [failE, if_neg h0]
    exact RNext.same h.out
set_option maxHeartbeats 400000 in
theorem left_any (b : Nat) (l : List UInt8) (e : Int) (w : World) (h : RAt w b 153 l e) :
    Calls Tryz.prog 112 #[.pointer (some ⟨b, 0, none⟩)] w fun r w' => r = .returned (.int .i64 (l.length : Int)) ∧ w = w' := by
  have c0 : w.cell? ⟨b, 0, none⟩ = some (.string (btx l)) := h.cell 0
  have hs := mk_size l
  clear h
  go_enter Tryz.func112, Tryz.ntmps112
  go_wp2
  go_returns
  exact ⟨rfl, rfl⟩
set_option maxHeartbeats 400000 in
theorem err_any (b : Nat) (l : List UInt8) (e : Int) (w : World) (h : RAt w b 153 l e) :
    Calls Tryz.prog 113 #[.pointer (some ⟨b, 0, none⟩)] w fun r w' => r = .returned (.int .i64 e) ∧ w = w' := by
  have c0 : w.cell? ⟨b, 1, none⟩ = some (.int .i64 e) := h.cell 1
  clear h
  go_enter Tryz.func113, Tryz.ntmps113
  go_wp2
  go_returns
  exact ⟨rfl, rfl⟩
/-- The error behind asking for n bytes. -/
def hasE (l : List UInt8) (e n : Int) : Int := if (l.length : Int) < n then failE e 2 else e
set_option maxHeartbeats 400000 in
theorem has_any (b : Nat) (l : List UInt8) (e n : Int) (w : World) (h : RAt w b 153 l e) :
    Calls Tryz.prog 108 #[.pointer (some ⟨b, 0, none⟩), .int .i64 n] w fun r w' => r = .returned (.bool (hasE l e n == 0)) ∧ RNext w b 153 l (hasE l e n) w' := by
  have h1 := left_any b l e w h
  have h2 := fail_any b l e 2 w h
  have h3 := err_any b l e w h
  replace h := Box.mk h
  by_cases hlt : (l.length : Int) < n
  · have hE : hasE l e n = failE e 2 := by rw [hasE, if_pos hlt]
    rw [hE]
    replace h2 := Box.mk h2
    go_enter Tryz.func108, Tryz.ntmps108
    go_wp2_with fail
    refine h1.mono ?_
    rintro r w' ⟨rfl, rfl⟩
    go_wp2_with fail
    refine h2.out.mono ?_
    rintro r w' ⟨rfl, hR⟩
    have h4 := err_any b l _ w' hR.at_
    replace hR := Box.mk hR
    go_wp2_with fail
    refine h4.mono ?_
    rintro r w2 ⟨rfl, rfl⟩
    go_wp2_with fail
    go_returns
    exact ⟨rfl, hR.out⟩
  · have hE : hasE l e n = e := by rw [hasE, if_neg hlt]
    rw [hE]
    go_enter Tryz.func108, Tryz.ntmps108
    go_wp2_with fail
    refine h1.mono ?_
    rintro r w' ⟨rfl, rfl⟩
    go_wp2_with fail
    refine h3.mono ?_
    rintro r w2 ⟨rfl, rfl⟩
    go_wp2_with fail
    go_returns
    exact ⟨rfl, RNext.same h.out⟩
set_option maxHeartbeats 400000 in
theorem next_any (b : Nat) (l : List UInt8) (e : Int) (n : Nat) (w : World) (h : RAt w b 153 l e) (hn : n ≤ l.length) :
    Calls Tryz.prog 111 #[.pointer (some ⟨b, 0, none⟩), .int .i64 (n : Int)] w fun r w' => r = .returned (.string (btx (l.take n))) ∧ RNext w b 153 (l.drop n) e w' := by
  have c0 : w.cell? ⟨b, 0, none⟩ = some (.string (btx l)) := h.cell 0
  have f0 := h.free 0
  have hs := mk_size l
  have x1 : (btx l).extract 0 n = btx (l.take n) := by rw [mk_cut]; rfl
  have x2 : (btx l).extract n l.length = btx (l.drop n) := by rw [mk_cut, List.take_of_length_le (Nat.le_refl _)]
  replace h := Box.mk h
  go_enter Tryz.func111, Tryz.ntmps111
  go_wp2_with fail
  go_returns
  exact ⟨rfl, (RNext.same h.out).left _⟩
set_option maxHeartbeats 800000 in
set_option maxRecDepth 100000 in
theorem value_str (s : ByteArray) (w : World) (hl : s.size ≤ 8) :
    Calls Tryz.prog 109 #[.string s] w fun r w' => r = .returned (.int .u64 (numL s.data.toList : Int)) ∧ w = w' := by
  go_enter Tryz.func109, Tryz.ntmps109
  go_wp2_with fail
  go_loopw [3, 7] (fun s3 s7 wr => ∃ i : Nat, i ≤ s.size ∧ s7 = .int .i64 i ∧ s3 = .int .u64 (numL (s.data.toList.take i) : Int) ∧ w = wr) (fun _ s7 _ => s.size - (intOf s7).toNat)
  case atStart => exact ⟨0, by omega, rfl, rfl, rfl⟩
  case round =>
    obtain ⟨i, hi, rfl, rfl, rfl⟩ := hrel
    by_cases hlt : i < s.size
    · obtain ⟨x, hx⟩ : ∃ x, s[i] = x := ⟨_, rfl⟩
      have hst := numL_take s.data.toList i (by rw [data_len]; exact hlt)
      have hgx : s.data.toList.getD i 0 = x := by
        rw [← hx]
        have := mk_get s.data.toList i hlt
        exact this.symm
      rw [hgx] at hst
      obtain ⟨n, hn⟩ : ∃ n, numL (s.data.toList.take i) = n := ⟨_, rfl⟩
      rw [hn] at hst
      have hb := numL_lt i (s.data.toList.take i) (by rw [List.length_take, data_len]; omega)
      rw [hn] at hb
      have hxl := x.toNat_lt
      have hnb : n * 256 + x.toNat < 18446744073709551616 := by
        have h7 : 256 ^ i ≤ 256 ^ 7 := Nat.pow_le_pow_right (by omega) (by omega)
        have : (256 : Nat) ^ 7 = 72057594037927936 := by decide
        omega
      have hor : bits .or .u64 ((n : Int) * 256) (x.toNat : Int) = ((n * 256 + x.toNat : Nat) : Int) := by
        have := u64_or_nat (n * 256) x.toNat (by omega) (by omega)
        rw [or_byte] at this
        exact_mod_cast this
      have hwx : IntKind.u64.wrap (x.toNat : Int) = (x.toNat : Int) := by rw [IntKind.wrap_u64]; omega
      replace hst := Box.mk hst
      clear hgx
      go_wp2_with fail
      exact ⟨⟨i + 1, by omega, by go_num, by rw [hst.out]; exact u_eq (by omega), trivial⟩, by simp [intOf]; omega⟩
    · obtain rfl : i = s.size := by omega
      rw [List.take_of_length_le (by rw [data_len]; exact Nat.le_refl _)]
      go_wp2_with fail
      go_returns
      exact ⟨rfl, rfl⟩
theorem value_any (l : List UInt8) (w : World) (hl : l.length ≤ 8) :
    Calls Tryz.prog 109 #[.string (btx l)] w fun r w' => r = .returned (.int .u64 (numL l : Int)) ∧ w = w' := value_str (btx l) w hl

/-- What a number of k bytes reads: the answer, what is left, the error. -/
def numR (k : Nat) (l : List UInt8) (e : Int) : Int × List UInt8 × Int :=
  if e ≠ 0 then (0, l, e) else if l.length < k then (0, l, 2) else if 9223372036854775807 < numL (l.take k) then (0, l, 3) else ((numL (l.take k) : Int), l.drop k, 0)
set_option maxHeartbeats 800000 in
set_option maxRecDepth 100000 in
theorem rnumber_any (b : Nat) (l : List UInt8) (e : Int) (k : Nat) (w : World) (h : RAt w b 153 l e) (hk : k ≤ 8) :
    Calls Tryz.prog 91 #[.pointer (some ⟨b, 0, none⟩), .int .i64 (k : Int)] w fun r w' => r = .returned (.int .i64 (numR k l e).1) ∧ RNext w b 153 (numR k l e).2.1 (numR k l e).2.2 w' := by
  have h1 := has_any b l e k w h
  by_cases he : e = 0
  · subst he
    by_cases hlt : l.length < k
    · have hE : hasE l 0 k = 2 := by rw [hasE, if_pos (by omega)]; rfl
      have hR : numR k l 0 = (0, l, 2) := by simp [numR, hlt]
      rw [hE] at h1
      rw [hR]
      replace h1 := Box.mk h1
      clear hR hE
      go_enter Tryz.func91, Tryz.ntmps91
      go_wp2_with fail
      refine h1.out.mono ?_
      rintro r w' ⟨rfl, hN⟩
      replace hN := Box.mk hN
      go_wp2_with fail
      go_returns
      exact ⟨rfl, hN.out⟩
    · have hE : hasE l 0 k = 0 := by rw [hasE, if_neg (by omega)]
      rw [hE] at h1
      have hx : (btx l).extract 0 k = btx (l.take k) := by rw [mk_cut]; rfl
      have hs := mk_size l
      obtain ⟨n, hn⟩ : ∃ n, numL (l.take k) = n := ⟨_, rfl⟩
      have hv := fun w => value_any (l.take k) w (by rw [List.length_take]; omega)
      rw [hn] at hv
      have hb := numL_lt k (l.take k) (by rw [List.length_take]; omega)
      rw [hn] at hb
      have hb8 : n < 18446744073709551616 := by
        have h7 : 256 ^ k ≤ 256 ^ 8 := Nat.pow_le_pow_right (by omega) hk
        have : (256 : Nat) ^ 8 = 18446744073709551616 := by decide
        omega
      replace h1 := Box.mk h1
      clear hE hb
      by_cases hbig : 9223372036854775807 < n
      · have hR : numR k l 0 = (0, l, 3) := by simp [numR, hlt, hn, hbig]
        rw [hR]
        clear hR hn
        go_enter Tryz.func91, Tryz.ntmps91
        go_wp2_with fail
        refine h1.out.mono ?_
        rintro r w1 ⟨rfl, hN⟩
        have c0 : w1.cell? ⟨b, 0, none⟩ = some (.string (btx l)) := hN.at_.cell 0
        have hF := fail_any b l 0 3 w1 hN.at_
        replace hN := Box.mk hN
        replace hF := Box.mk hF
        go_wp2_with fail
        refine (hv w1).mono ?_
        rintro r w2 ⟨rfl, rfl⟩
        go_wp2_with fail
        refine hF.out.mono ?_
        rintro r w3 ⟨rfl, hN3⟩
        replace hN3 := Box.mk hN3
        go_wp2_with fail
        go_returns
        exact ⟨rfl, hN.out.trans hN3.out⟩
      · have hR : numR k l 0 = ((n : Int), l.drop k, 0) := by simp [numR, hlt, hn, hbig]
        rw [hR]
        clear hR hn
        have hwn : IntKind.i64.wrap (n : Int) = (n : Int) := by rw [IntKind.wrap_i64]; omega
        go_enter Tryz.func91, Tryz.ntmps91
        go_wp2_with fail
        refine h1.out.mono ?_
        rintro r w1 ⟨rfl, hN⟩
        have c0 : w1.cell? ⟨b, 0, none⟩ = some (.string (btx l)) := hN.at_.cell 0
        have hX := next_any b l 0 k w1 hN.at_ (by omega)
        replace hN := Box.mk hN
        replace hX := Box.mk hX
        go_wp2_with fail
        refine (hv w1).mono ?_
        rintro r w2 ⟨rfl, rfl⟩
        go_wp2_with fail
        refine hX.out.mono ?_
        rintro r w3 ⟨rfl, hN3⟩
        replace hN3 := Box.mk hN3
        go_wp2_with fail
        go_returns
        exact ⟨rfl, hN.out.trans hN3.out⟩
  · have hE : hasE l e k = e := by rw [hasE, failE, if_neg he]; split <;> rfl
    have hR : numR k l e = (0, l, e) := by simp [numR, he]
    have hf : (e == 0) = false := by simpa using he
    rw [hE] at h1
    rw [hR]
    replace h1 := Box.mk h1
    clear hR hE
    go_enter Tryz.func91, Tryz.ntmps91
    go_wp2_with fail
    refine h1.out.mono ?_
    rintro r w' ⟨rfl, hN⟩
    replace hN := Box.mk hN
    go_wp2_with fail
    go_returns
    exact ⟨rfl, hN.out⟩
end Go.Proofs.YtoaipjpbioaneaaGreat
