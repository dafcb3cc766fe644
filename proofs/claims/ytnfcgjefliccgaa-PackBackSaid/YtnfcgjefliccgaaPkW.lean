/- Walks of the document's writer: texts, hashes, what it answers; a nil writer. -/
import Derived.Test.YtnfcgjefliccgaaPkV
namespace Go.Proofs.Ytnfcgjefliccgaa
open Go.RowKit

/-- What a call of the document's writer leaves. -/
def laysX (ok : Bool) (s l : List UInt8) : List UInt8 := if ok then l ++ s else l
theorem xnum_any (b : Nat) (v : Value) (l : List UInt8) (bad : Bool) (n : Int) (k : Nat) (w : World) (hk : k = 1 ∨ k = 2 ∨ k = 4 ∨ k = 8) (hn : -9223372036854775808 ≤ n ∧ n ≤ 9223372036854775807) (hW : WAt w b 28 v l bad) (hlen : l.length ≤ 35184372088832) :
    Calls Try.prog 30 #[.pointer (some ⟨b, 0, none⟩), .int .i64 n, .int .i64 (k : Int)] w fun e w' => e = .returned (.tuple #[]) ∧ WNext w b 28 v (laysX (fits n k) (beN n.toNat k) l) (bad || !fits n k) w' := by
  cases hf : fits n k with
  | false => exact (xnum_bad b v l bad n k w hk hn hW hf).mono fun e w' ⟨he, hN⟩ => ⟨he, by simpa [laysX] using hN⟩
  | true =>
    obtain ⟨m, rfl⟩ : ∃ m : Nat, n = m := ⟨n.toNat, by simp [fits] at hf; omega⟩
    exact (xnum_fit b v l bad m k w hk (by omega) hW hf hlen).mono fun e w' ⟨he, hN⟩ => ⟨he, by simpa [laysX] using hN⟩
set_option maxHeartbeats 800000 in
set_option maxRecDepth 100000 in
theorem xtext_lay (b : Nat) (v : Value) (l : List UInt8) (bad : Bool) (s : ByteArray) (w : World) (hW : WAt w b 28 v l bad) (hlen : l.length ≤ 35184372088000) :
    Calls Try.prog 33 #[.pointer (some ⟨b, 0, none⟩), .string s] w fun e w' => e = .returned (.tuple #[]) ∧ WNext w b 28 v (laysX (decide (s.size ≤ 65535)) (textL s) l) (bad || !decide (s.size ≤ 65535)) w' := by
  by_cases hs : s.size ≤ 65535
  · have hN := xnum_any b v l bad s.size 2 w (by omega) (by omega) hW (by omega)
    rw [fits_two _ hs] at hN
    replace hN := Box.mk hN
    have hsB := Box.mk hs
    have hng : ¬ (65535 : Int) < (s.size : Int) := by omega
    replace hW := Box.mk hW
    go_enter Try.func33, Try.ntmps33
    go_wp2_with fail
    refine hN.out.mono ?_
    rintro e w1 ⟨rfl, hn⟩
    clear hN
    obtain ⟨v1, hA, hC, hP⟩ := hn.out
    simp only [laysX, Bool.not_true, Bool.or_false, if_true, Int.toNat_natCast] at hA
    obtain ⟨L, hL⟩ : ∃ L, l ++ beN s.size 2 = L := ⟨_, rfl⟩
    have hLl : L.length = l.length + 2 := by rw [← hL, List.length_append, beN_length]
    rw [hL] at hA
    replace hL := Box.mk hL
    obtain ⟨a1, c1, rfl⟩ := hA.own.shape
    have k0 : w1.cell? ⟨b, 0, none⟩ = some (.slice a1 L.length c1) := hA.blk.cell 0
    have hcap : Box (L.length + s.size ≤ 70368744177664) := ⟨by omega⟩
    have hO := Box.mk hA.own
    replace hA := Box.mk hA
    replace hC := Box.mk hC
    replace hP := Box.mk hP
    clear hn hs hLl
    go_wp2_with (refine wpList_pushS rfl (.tmp 18) (.tmp 19) rfl (.slice a1 L.length c1) L rfl hO.out s rfl hcap.out ?_; intro v2 w2 hp2; obtain ⟨a2, c2, rfl⟩ := hp2.own.shape; obtain ⟨k2, k3⟩ := hA.out.after (by decide) hp2; replace hp2 := Box.mk hp2)
    go_returns
    refine ⟨rfl, ?_⟩
    have hS := WNext.trans hA.out hC.out hP.out (hA.out.store (by decide) hp2.out)
    rw [show (L ++ s.data.toList).length = L.length + s.size by rw [List.length_append, data_len]] at hS
    generalize w2.setCell { block := b, off := 0 } (Value.slice a2 (L.length + s.size) c2) = w3 at hS
    rw [← hL.out, List.append_assoc] at hS
    simpa [laysX, textL, hsB.out] using hS
  · have c1 : w.cell? ⟨b, 1, none⟩ = some (.bool bad) := hW.blk.cell 1
    have f1 := hW.blk.free 1
    have hg : (65535 : Int) < (s.size : Int) := by omega
    replace hW := Box.mk hW
    have hsB := Box.mk hs
    clear hs
    go_enter Try.func33, Try.ntmps33
    go_wp2_with fail
    go_returns
    exact ⟨rfl, by simpa [laysX, hsB.out] using WNext.setBad hW.out (by decide) true⟩
set_option maxHeartbeats 800000 in
set_option maxRecDepth 100000 in
theorem xhash_lay (b : Nat) (v : Value) (l : List UInt8) (bad : Bool) (s : ByteArray) (w : World) (hW : WAt w b 28 v l bad) (hlen : l.length ≤ 35184372088000) :
    Calls Try.prog 35 #[.pointer (some ⟨b, 0, none⟩), .string s] w fun e w' => e = .returned (.tuple #[]) ∧ WNext w b 28 v (laysX (decide (s.size = 32)) s.data.toList l) (bad || !decide (s.size = 32)) w' := by
  by_cases hs : s.size = 32
  · have hsB := Box.mk hs
    have hse : ((s.size : Int) == 32) = true := by simp; omega
    obtain ⟨a1, c1, rfl⟩ := hW.own.shape
    have k0 : w.cell? ⟨b, 0, none⟩ = some (.slice a1 l.length c1) := hW.blk.cell 0
    have hcap : Box (l.length + s.size ≤ 70368744177664) := ⟨by omega⟩
    have hO := Box.mk hW.own
    replace hW := Box.mk hW
    clear hs
    go_enter Try.func35, Try.ntmps35
    go_wp2_with (refine wpList_pushS rfl (.tmp 14) (.tmp 15) rfl (.slice a1 l.length c1) l rfl hO.out s rfl hcap.out ?_; intro v2 w2 hp2; obtain ⟨a2, c2, rfl⟩ := hp2.own.shape; obtain ⟨k2, k3⟩ := hW.out.after (by decide) hp2; replace hp2 := Box.mk hp2)
    go_returns
    refine ⟨rfl, ?_⟩
    have hS := hW.out.store (by decide) hp2.out
    rw [show (l ++ s.data.toList).length = l.length + s.size by rw [List.length_append, data_len]] at hS
    simpa [laysX, hsB.out] using hS
  · have c1 : w.cell? ⟨b, 1, none⟩ = some (.bool bad) := hW.blk.cell 1
    have f1 := hW.blk.free 1
    have hse : ((s.size : Int) == 32) = false := by simp; omega
    replace hW := Box.mk hW
    have hsB := Box.mk hs
    clear hs
    go_enter Try.func35, Try.ntmps35
    go_wp2_with fail
    go_returns
    exact ⟨rfl, by simpa [laysX, hsB.out] using WNext.setBad hW.out (by decide) true⟩
set_option maxHeartbeats 800000 in
set_option maxRecDepth 100000 in
theorem xbytes_any (b : Nat) (v : Value) (l : List UInt8) (bad : Bool) (w : World) (hW : WAt w b 28 v l bad) :
    Calls Try.prog 10 #[.pointer (some ⟨b, 0, none⟩)] w fun e w' => e = .returned (bytesR l bad) ∧ w = w' := by
  have k0 : w.cell? ⟨b, 0, none⟩ = some v := hW.blk.cell 0
  have k1 : w.cell? ⟨b, 1, none⟩ = some (.bool bad) := hW.blk.cell 1
  have hcv := own_text hW.own
  clear hW
  cases bad with
  | true =>
    go_enter Try.func10, Try.ntmps10
    go_wp2_with fail
    go_returns
    exact ⟨rfl, rfl⟩
  | false =>
    replace hcv := Box.mk hcv
    go_enter Try.func10, Try.ntmps10
    go_wp2_with fail
    rw [hcv.out]
    go_wp2_with fail
    go_returns
    exact ⟨rfl, rfl⟩
set_option maxHeartbeats 400000 in
theorem byte_nil (n : Int) (w : World) :
    Calls Try.prog 29 #[.pointer none, .int .i64 n] w fun e w' => e = .returned (.tuple #[]) ∧ w = w' := by
  have hN := number_nil n 1 w (by omega)
  go_enter Try.func29, Try.ntmps29
  go_wp2_with fail
  refine hN.mono ?_
  rintro e w' ⟨rfl, rfl⟩
  go_wp2_with fail
  go_returns
  exact ⟨rfl, rfl⟩
set_option maxHeartbeats 400000 in
theorem two_nil (n : Int) (w : World) :
    Calls Try.prog 27 #[.pointer none, .int .i64 n] w fun e w' => e = .returned (.tuple #[]) ∧ w = w' := by
  have hN := number_nil n 2 w (by omega)
  go_enter Try.func27, Try.ntmps27
  go_wp2_with fail
  refine hN.mono ?_
  rintro e w' ⟨rfl, rfl⟩
  go_wp2_with fail
  go_returns
  exact ⟨rfl, rfl⟩
set_option maxHeartbeats 400000 in
theorem four_nil (n : Int) (w : World) :
    Calls Try.prog 31 #[.pointer none, .int .i64 n] w fun e w' => e = .returned (.tuple #[]) ∧ w = w' := by
  have hN := number_nil n 4 w (by omega)
  go_enter Try.func31, Try.ntmps31
  go_wp2_with fail
  refine hN.mono ?_
  rintro e w' ⟨rfl, rfl⟩
  go_wp2_with fail
  go_returns
  exact ⟨rfl, rfl⟩
set_option maxHeartbeats 400000 in
theorem eight_nil (n : Int) (w : World) :
    Calls Try.prog 32 #[.pointer none, .int .i64 n] w fun e w' => e = .returned (.tuple #[]) ∧ w = w' := by
  have hN := number_nil n 8 w (by omega)
  go_enter Try.func32, Try.ntmps32
  go_wp2_with fail
  refine hN.mono ?_
  rintro e w' ⟨rfl, rfl⟩
  go_wp2_with fail
  go_returns
  exact ⟨rfl, rfl⟩
set_option maxHeartbeats 400000 in
theorem text_nil (s : ByteArray) (w : World) :
    Calls Try.prog 28 #[.pointer none, .string s] w fun e w' => e = .returned (.tuple #[]) ∧ w = w' := by
  have hT := fun f => takes_nil f w
  go_enter Try.func28, Try.ntmps28
  go_wp2_with fail
  refine (hT _).mono ?_
  rintro e w' ⟨rfl, rfl⟩
  go_wp2_with fail
  go_returns
  exact ⟨rfl, rfl⟩
set_option maxHeartbeats 400000 in
theorem hash_nil (s : ByteArray) (w : World) :
    Calls Try.prog 34 #[.pointer none, .string s] w fun e w' => e = .returned (.tuple #[]) ∧ w = w' := by
  have hT := fun f => takes_nil f w
  go_enter Try.func34, Try.ntmps34
  go_wp2_with fail
  refine (hT _).mono ?_
  rintro e w' ⟨rfl, rfl⟩
  go_wp2_with fail
  go_returns
  exact ⟨rfl, rfl⟩
end Go.Proofs.Ytnfcgjefliccgaa
