/- Walks of the laws' common example and of KeysNone. -/
import Derived.Test.YtbnmdieadaeeiaaGreatDoorKyF
namespace Go.Proofs.YtbnmdieadaeeiaaGreatDoor
open Go Go.RowKit

def sB : ByteArray := { data := #[115] }
def aB : ByteArray := { data := #[97] }
theorem KeyTo.kis {w w' : World} {b u u' : Nat} {O : Option Nat} {s : ByteArray} {h : Nat} (k : KeyAt w b O s h u') (hK : KIs w) (g : KeyTo w b O s h u w') : KIs w' := k.kis hK g.chg
theorem KeyTo.bel {w0 w w' : World} {b u : Nat} {O : Option Nat} {s : ByteArray} {h : Nat} (hB : Below w0.heap.size w0 w) (hb : w0.heap.size ≤ b) (g : KeyTo w b O s h u w') : Below w0.heap.size w0 w' :=
  hB.trans (g.chg.below hB.size (fun i e => by rw [e]; exact hb))
set_option maxHeartbeats 3200000 in
set_option maxRecDepth 100000 in
theorem signs_key (w : World) (hK : KIs w) :
    Calls Tryz.prog 9 #[] w fun e w' => e = .returned (.bool true) ∧ Below w.heap.size w w' := by
  have hNew : Calls Tryz.prog 10 #[.string sB, .int .i64 1] w _ := new_ok sB 1 w (by omega)
  have hLeft : ∀ w1, KeyAt w1 w.heap.size none sB 1 0 → Calls Tryz.prog 20 #[.pointer (some ⟨w.heap.size, 0, none⟩)] w1 fun e w' => e = .returned (.int .i64 2) ∧ w' = w1 := fun w1 k => left_any w.heap.size none sB 1 0 w1 k (by decide)
  have hSign := fun w1 (hK1 : KIs w1) (k : KeyAt w1 w.heap.size none sB 1 0) => sign_key w.heap.size none sB aB 1 0 w1 k hK1 (by decide) (by decide) (by decide)
  have hNum := fun w1 => number_key (keyS sB 1 0 aB) w1
  rw [num_back sB 1 0 aB (by omega) (by decide)] at hNum
  have hID := fun O w1 (hK1 : KIs w1) (k : KeyAt w1 w.heap.size O sB 1 1) => id_key w.heap.size O sB 1 1 w1 k hK1 (by decide)
  have hVer := fun w1 (hK1 : KIs w1) => verify_any (keyID sB 1) aB (keyS sB 1 0 aB) w1 hK1 (by decide)
  rw [ver_back sB 1 0 aB (by omega) (by decide)] at hVer
  have hUsed := fun O w1 (k : KeyAt w1 w.heap.size O sB 1 1) => used_any w.heap.size O sB 1 1 w1 k
  have hzs := keyS_size sB 1 0 aB
  generalize keyS sB 1 0 aB = z at hSign hNum hVer hzs
  generalize keyID sB 1 = i at hID hVer
  have hzl : (z.size : Int) = 323 := by omega
  clear hzs
  replace hLeft := Box.mk hLeft
  replace hSign := Box.mk hSign
  replace hNum := Box.mk hNum
  replace hID := Box.mk hID
  replace hVer := Box.mk hVer
  replace hUsed := Box.mk hUsed
  have hKB := Box.mk hK
  clear hK
  go_enter Tryz.func9, Tryz.ntmps9
  go_wp2_with fail
  refine hNew.mono ?_
  clear hNew
  rintro e w1 ⟨rfl, k1, hb1⟩
  have hF := hLeft.out w1 k1
  have hK1 := hKB.out.below hb1 hKB.out.lt
  replace k1 := Box.mk k1
  replace hb1 := Box.mk hb1
  replace hK1 := Box.mk hK1
  clear hLeft
  go_wp2_with fail
  refine hF.mono ?_
  clear hF
  rintro e w1' ⟨rfl, rfl⟩
  have hF := hSign.out w1' hK1.out k1.out
  clear hSign
  go_wp2_with fail
  refine hF.mono ?_
  clear hF
  rintro e w2 ⟨rfl, g2⟩
  have hK2 := g2.kis k1.out hK1.out
  have hB2 := g2.bel hb1.out (Nat.le_refl _)
  obtain ⟨⟨O2, k2, _⟩, _⟩ := g2
  have hF := hNum.out w2
  replace k2 := Box.mk k2
  replace hK2 := Box.mk hK2
  replace hB2 := Box.mk hB2
  clear hNum k1 hb1 hK1
  go_wp2_with fail
  refine hF.mono ?_
  clear hF
  rintro e w3 ⟨rfl, hb3⟩
  have k3 := k2.out.here hb3
  have hK3 := hK2.out.below hb3 hK2.out.lt
  have hB3 := mono_bel hB2.out hb3 (Nat.le_refl _)
  have hF := hID.out O2 w3 hK3 k3
  replace k3 := Box.mk k3
  replace hK3 := Box.mk hK3
  replace hB3 := Box.mk hB3
  clear hID k2 hK2 hB2 hb3
  go_wp2_with fail
  refine hF.mono ?_
  clear hF
  rintro e w4 ⟨rfl, g4⟩
  have hK4 := g4.kis k3.out hK3.out
  have hB4 := g4.bel hB3.out (Nat.le_refl _)
  obtain ⟨⟨O4, k4, _⟩, _⟩ := g4
  have hF := hVer.out w4 hK4
  replace k4 := Box.mk k4
  replace hB4 := Box.mk hB4
  clear hVer k3 hK3 hB3 hK4
  go_wp2_with fail
  refine hF.mono ?_
  clear hF
  rintro e w5 ⟨rfl, hb5⟩
  have k5 := k4.out.here hb5
  have hB5 := mono_bel hB4.out hb5 (Nat.le_refl _)
  have hF := hUsed.out O4 w5 k5
  replace hB5 := Box.mk hB5
  clear hUsed k4 hB4 hb5 k5
  go_wp2_with fail
  refine hF.mono ?_
  clear hF
  rintro e w6 ⟨rfl, rfl⟩
  go_wp2_with fail
  go_ret
  exact ⟨rfl, hB5.out⟩

theorem skip_nil (n : Int) (w : World) : Calls Tryz.prog 12 #[.pointer none, .int .i64 n] w fun e w' => e = .returned (.tuple #[]) ∧ w' = w := by
  go_enter Tryz.func12, Tryz.ntmps12
  go_wp2_with fail
  go_returns
  exact ⟨rfl, rfl⟩
theorem sign_nil (s : ByteArray) (w : World) : Calls Tryz.prog 17 #[.pointer none, .string s] w fun e w' => e = .returned (.tuple #[.string ⟨#[]⟩, .int .i64 1]) ∧ w' = w := by
  go_enter Tryz.func17, Tryz.ntmps17
  go_wp2_with fail
  go_returns
  exact ⟨rfl, rfl⟩
set_option maxRecDepth 100000 in
theorem all_nil (a : Option Addr) (m c : Nat) (n : Int) (w : World) : Calls Tryz.prog 26 #[.pointer none, .slice a m c, .int .i64 n] w fun e w' => e = .returned (.tuple #[.slice none 0 0, .int .i64 1]) ∧ Below w.heap.size w w' := by
  have hB : Box (Below w.heap.size w ((w.alloc (.cells #[.pointer none] 24)).alloc (.cells #[.slice a m c] 52))) := ⟨((Below.refl _ _).alloc (Nat.le_refl _) _).alloc (by simp) _⟩
  go_enter Tryz.func26, Tryz.ntmps26
  go_wp2_with fail
  go_returns
  exact ⟨rfl, hB.out⟩
theorem id_nil (w : World) : Calls Tryz.prog 22 #[.pointer none] w fun e w' => e = .returned (.string ⟨#[]⟩) ∧ w' = w := by
  go_enter Tryz.func22, Tryz.ntmps22
  go_wp2_with fail
  go_returns
  exact ⟨rfl, rfl⟩
theorem used_nil (w : World) : Calls Tryz.prog 19 #[.pointer none] w fun e w' => e = .returned (.int .i64 0) ∧ w' = w := by
  go_enter Tryz.func19, Tryz.ntmps19
  go_wp2_with fail
  go_returns
  exact ⟨rfl, rfl⟩
theorem left_nil (w : World) : Calls Tryz.prog 20 #[.pointer none] w fun e w' => e = .returned (.int .i64 0) ∧ w' = w := by
  go_enter Tryz.func20, Tryz.ntmps20
  go_wp2_with fail
  go_returns
  exact ⟨rfl, rfl⟩

def hs3 (n : Int) (j : Nat) : Int := if j = 0 then -1 else if j = 1 then 5 else n
set_option maxHeartbeats 3200000 in
set_option maxRecDepth 100000 in
theorem law_none (s : ByteArray) (n : Int) (w : World) (hK : KIs w) :
    Calls Tryz.prog 8 #[.string s, .int .i64 n] w fun e w' => e = .returned (.bool true) ∧ Below w.heap.size w w' := by
  have h0 := signs_key w hK
  have hnot : ∀ (x : Bool) (w : World), (Op.unary .not (.bool x)).run Tryz.prog w = .ok (.bool (!x)) w := fun _ _ => rfl
  have hE : ∀ w1 : World, ∀ j, j < 3 → (w1.alloc (.cells #[.int .i64 (-1), .int .i64 5, .int .i64 n] 3)).cell? ⟨w1.heap.size, j, none⟩ = some (.int .i64 (hs3 n j)) := fun w1 j hj => by
    rw [(Blk.new w1 [.int .i64 (-1), .int .i64 5, .int .i64 n] 3).cell]
    obtain rfl | rfl | rfl : j = 0 ∨ j = 1 ∨ j = 2 := by omega
    all_goals rfl
  replace hE := Box.mk hE
  clear hK
  go_enter Tryz.func8, Tryz.ntmps8
  go_wp2_with fail
  refine h0.mono ?_
  clear h0
  rintro e w1 ⟨rfl, hb1⟩
  have hE1 := hE.out w1
  obtain ⟨w2, hw2⟩ : ∃ w2, w1.alloc (.cells #[.int .i64 (-1), .int .i64 5, .int .i64 n] 3) = w2 := ⟨_, rfl⟩
  rw [hw2] at hE1
  have hB2 : Box (Below w.heap.size w w2) := ⟨by rw [← hw2]; exact hb1.alloc hb1.size _⟩
  have hlt2 : w1.heap.size < w2.heap.size := by rw [← hw2]; simp
  obtain ⟨A, hA⟩ : ∃ A, w1.heap.size = A := ⟨_, rfl⟩
  rw [hA] at hE1 hlt2
  replace hE1 := Box.mk hE1
  have hlB := Box.mk hlt2
  have hR2 : Box (Below w2.heap.size w2 w2) := ⟨Below.refl _ _⟩
  clear hE hb1 hlt2
  go_wp2_with fail
  go_loopw [6, 7, 8, 19] (fun _ _ _ q wr => ∃ j : Nat, j ≤ 3 ∧ q = .int .i64 (j : Int) ∧ Box (Below w.heap.size w wr) ∧ Box (Below w2.heap.size w2 wr)) (fun _ _ _ q _ => 3 - (intOf q).toNat)
  case atStart => exact ⟨0, by omega, rfl, hB2, hR2⟩
  case round =>
    clear hB2 hR2
    obtain ⟨j, hj, rfl, hB, hR⟩ := hrel
    by_cases hlt : j < 3
    · have hc : wr.cell? ⟨A, j, none⟩ = some (.int .i64 (hs3 n j)) := (hR.out.cell (p := ⟨A, j, none⟩) hlB.out).trans (hE1.out j hlt)
      obtain ⟨x, hx⟩ : ∃ x, hs3 n j = x := ⟨_, rfl⟩
      rw [hx] at hc
      replace hx := Box.mk hx
      by_cases h1 : x < 0
      · have hF := new_no s x wr (.inl h1)
        go_wp2_with fail
        refine hF.mono ?_
        rintro e w3 ⟨rfl, rfl⟩
        go_wp2_with fail
        exact ⟨⟨j + 1, by omega, by go_num, hB, hR⟩, by simp [intOf]; omega⟩
      · by_cases h2 : 4 < x
        · have hF := new_no s x wr (.inr h2)
          go_wp2_with fail
          refine hF.mono ?_
          rintro e w3 ⟨rfl, rfl⟩
          go_wp2_with fail
          exact ⟨⟨j + 1, by omega, by go_num, hB, hR⟩, by simp [intOf]; omega⟩
        · obtain ⟨m, rfl⟩ : ∃ m : Nat, x = m := ⟨x.toNat, by omega⟩
          have hF := new_ok s m wr (by omega)
          go_wp2_with fail
          refine hF.mono ?_
          rintro e w3 ⟨rfl, _, hb3⟩
          have hB3 : Box (Below w.heap.size w w3) := ⟨mono_bel hB.out hb3 (Nat.le_refl _)⟩
          have hR3 : Box (Below w2.heap.size w2 w3) := ⟨mono_bel hR.out hb3 (Nat.le_refl _)⟩
          clear hb3 hF
          go_wp2_with fail
          exact ⟨⟨j + 1, by omega, by go_num, hB3, hR3⟩, by simp [intOf]; omega⟩
    · obtain rfl : j = 3 := by omega
      have hF1 := skip_nil n wr
      have hF2 := sign_nil s wr
      have hF3 := all_nil (some ⟨wr.heap.size, 0, none⟩) 1 1 n (wr.alloc (.cells #[.string s] 9))
      have hF4 := id_nil
      have hF5 := used_nil
      have hF6 := left_nil
      have hBa : Box (Below w.heap.size w (wr.alloc (.cells #[.string s] 9))) := ⟨hB.out.alloc hB.out.size _⟩
      replace hF4 := Box.mk hF4
      replace hF5 := Box.mk hF5
      replace hF6 := Box.mk hF6
      go_wp2_with fail
      refine hF1.mono ?_
      rintro e w3 ⟨rfl, rfl⟩
      go_wp2_with fail
      refine hF2.mono ?_
      rintro e w3 ⟨rfl, rfl⟩
      go_wp2_with fail
      refine hF3.mono ?_
      rintro e w4 ⟨rfl, hb4⟩
      have hB4 : Box (Below w.heap.size w w4) := ⟨mono_bel hBa.out hb4 (Nat.le_refl _)⟩
      clear hF1 hF2 hF3 hBa hb4
      go_wp2_with fail
      refine (hF4.out w4).mono ?_
      rintro e w5 ⟨rfl, rfl⟩
      go_wp2_with fail
      refine (hF5.out w5).mono ?_
      rintro e w6 ⟨rfl, rfl⟩
      go_wp2_with fail
      refine (hF6.out w6).mono ?_
      rintro e w7 ⟨rfl, rfl⟩
      go_wp2_with fail
      go_ret
      exact ⟨rfl, hB4.out⟩
end Go.Proofs.YtbnmdieadaeeiaaGreatDoor
