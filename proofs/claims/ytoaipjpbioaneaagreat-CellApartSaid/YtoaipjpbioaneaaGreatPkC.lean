/- Walks of a writer's calls: texts, hashes, and what it answers. -/
import Derived.Test.YtoaipjpbioaneaaGreatPkB
namespace Go.Proofs.YtoaipjpbioaneaaGreat
open Go.RowKit

theorem WAt.after {w w1 : World} {b : Nat} {t : TypeId} {v v' : Value} {l l' : List UInt8} {bad : Bool} (h : WAt w b t v l bad) (ht : t ≠ 5) (hp : Pushed w v l' v' w1) : w1.cell? ⟨b, 0, none⟩ = some v ∧ w1.frozen? ⟨b, 0, none⟩ = false := by
  have h1 := hp.chg.blk h.blk (h.own.apart h.blk ht)
  exact ⟨h1.cell 0, h1.free 0⟩
theorem fits_two (n : Nat) (h : n ≤ 65535) : fits n 2 = true := by simp [fits]; omega
/-- A text as it is laid. -/
def textL (s : ByteArray) : List UInt8 := beN s.size 2 ++ s.data.toList
set_option maxHeartbeats 800000 in
set_option maxRecDepth 100000 in
theorem text_any (b : Nat) (v : Value) (l : List UInt8) (bad : Bool) (s : ByteArray) (w : World) (hW : WAt w b 112 v l bad) (hlen : l.length ≤ 35184372088000) :
    Calls Tryz.prog 58 #[.pointer (some ⟨b, 0, none⟩), .string s] w fun e w' => e = .returned (.tuple #[]) ∧ WNext w b 112 v (lays (decide (s.size ≤ 65535)) (textL s) l bad) (bad || !decide (s.size ≤ 65535)) w' := by
  by_cases hs : s.size ≤ 65535
  · have hT := takes_fit b v bad w hW.blk
    have hN := two_any b v l bad s.size w hW (by omega)
    rw [fits_two _ hs] at hN
    replace hN := Box.mk hN
    have hsB := Box.mk hs
    have hd := Box.mk (show decide ((s.size : Int) ≤ 65535) = true from decide_eq_true (by omega))
    replace hW := Box.mk hW
    go_enter Tryz.func58, Tryz.ntmps58
    go_wp2_with fail
    rw [hd.out]
    refine hT.mono ?_
    rintro e w' ⟨rfl, rfl⟩
    clear hT
    cases bad with
    | true =>
      go_wp2_with fail
      go_returns
      exact ⟨rfl, by simpa [lays] using WNext.same hW.out⟩
    | false =>
      go_wp2_with fail
      refine hN.out.mono ?_
      rintro e w1 ⟨rfl, hn⟩
      clear hN
      obtain ⟨v1, hA, hC, hP⟩ := hn.out
      simp only [lays, Bool.not_true, Bool.or_false, if_false, Bool.false_eq_true, Int.toNat_natCast] at hA
      obtain ⟨L, hL⟩ : ∃ L, l ++ beN s.size 2 = L := ⟨_, rfl⟩
      have hLl : L.length = l.length + 2 := by rw [← hL, List.length_append, beN_length]
      rw [hL] at hA
      replace hL := Box.mk hL
      obtain ⟨a1, c1, rfl⟩ := hA.own.shape
      have k0 : w1.cell? ⟨b, 0, none⟩ = some (.slice a1 L.length c1) := hA.blk.cell 0
      have hne := Box.mk (hA.own.apart hA.blk (by decide))
      have hcap : Box (L.length + s.size ≤ 70368744177664) := ⟨by omega⟩
      have hO := Box.mk hA.own
      replace hA := Box.mk hA
      replace hC := Box.mk hC
      replace hP := Box.mk hP
      clear hn hs hLl
      go_wp2_with (refine wpList_pushS rfl (.tmp 18) (.tmp 19) rfl (.slice a1 L.length c1) L rfl hO.out s rfl hcap.out ?_; intro v2 w2 hp2; obtain ⟨a2, c2, rfl⟩ := hp2.own.shape; obtain ⟨k2, k3⟩ := hA.out.after (by decide) hp2; replace hp2 := Box.mk hp2)
      go_returns
      refine ⟨rfl, ?_⟩
      have hS := WNext.trans hA.out hC.out hP.out (hA.out.store (by decide) hp2.out)
      rw [show (L ++ s.data.toList).length = L.length + s.size by rw [List.length_append, data_len]] at hS
      generalize w2.setCell { block := b, off := 0 } (Value.slice a2 (L.length + s.size) c2) = w3 at hS
      rw [← hL.out, List.append_assoc] at hS
      simpa [lays, textL, hsB.out] using hS
  · have hT := takes_bad b v bad w hW.blk
    have hd := Box.mk (show decide ((s.size : Int) ≤ 65535) = false from decide_eq_false (by omega))
    go_enter Tryz.func58, Tryz.ntmps58
    go_wp2_with fail
    rw [hd.out]
    refine hT.mono ?_
    rintro e w' ⟨rfl, rfl⟩
    go_wp2_with fail
    go_returns
    exact ⟨rfl, by simpa [lays, hs] using WNext.setBad hW (by decide) true⟩
/-- What a writer's Bytes answers. -/
def bytesR (l : List UInt8) (bad : Bool) : Value := if bad then .tuple #[.string ByteArray.empty, .int .i64 1] else .tuple #[.string ⟨l.toArray⟩, .int .i64 0]
set_option maxHeartbeats 800000 in
set_option maxRecDepth 100000 in
theorem bytes_any (b : Nat) (v : Value) (l : List UInt8) (bad : Bool) (w : World) (hW : WAt w b 112 v l bad) :
    Calls Tryz.prog 59 #[.pointer (some ⟨b, 0, none⟩)] w fun e w' => e = .returned (bytesR l bad) ∧ w = w' := by
  have k0 : w.cell? ⟨b, 0, none⟩ = some v := hW.blk.cell 0
  have k1 : w.cell? ⟨b, 1, none⟩ = some (.bool bad) := hW.blk.cell 1
  have hcv := own_text hW.own
  clear hW
  cases bad with
  | true =>
    go_enter Tryz.func59, Tryz.ntmps59
    go_wp2_with fail
    go_returns
    exact ⟨rfl, rfl⟩
  | false =>
    replace hcv := Box.mk hcv
    go_enter Tryz.func59, Tryz.ntmps59
    go_wp2_with fail
    rw [hcv.out]
    go_wp2_with fail
    go_returns
    exact ⟨rfl, rfl⟩
set_option maxHeartbeats 400000 in
theorem bytes_nil (w : World) :
    Calls Tryz.prog 59 #[.pointer none] w fun e w' => e = .returned (.tuple #[.string ByteArray.empty, .int .i64 1]) ∧ w = w' := by
  go_enter Tryz.func59, Tryz.ntmps59
  go_wp2
  go_returns
  exact ⟨rfl, rfl⟩
end Go.Proofs.YtoaipjpbioaneaaGreat
