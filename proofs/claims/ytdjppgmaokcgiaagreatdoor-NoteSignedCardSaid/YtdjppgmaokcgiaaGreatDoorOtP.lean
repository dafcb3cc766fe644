/- Walks of the program's one, two, secret, links, publicOf. -/
import Derived.Test.YtdjppgmaokcgiaaGreatDoorOtM
namespace Go.Proofs.YtdjppgmaokcgiaaGreatDoor
open Go.RowKit

theorem own_two (w : World) (x y : UInt8) : (w.alloc (.cells #[Value.int .u8 (x.toNat : Int), Value.int .u8 (y.toNat : Int)] 5)).ownsRow w.heap.size 5 1 (.slice (some ⟨w.heap.size, 0, none⟩) 2 2) [x, y].length ([x, y].map yc) :=
  ⟨rfl, Or.inr ⟨w.heap.size, 2, #[Value.int .u8 (x.toNat : Int), Value.int .u8 (y.toNat : Int)], rfl, Nat.le_refl _, heap_alloc_new w _, Nat.le_refl _, by unfold maxLen; omega, rfl, rfl⟩⟩
theorem two_text (w : World) (x y : UInt8) : (convert 24 9 (.slice (some ⟨w.heap.size, 0, none⟩) 2 2)).run Tryz.prog (w.alloc (.cells #[Value.int .u8 (x.toNat : Int), Value.int .u8 (y.toNat : Int)] 5)) = .ok (.string (two x y)) (w.alloc (.cells #[Value.int .u8 (x.toNat : Int), Value.int .u8 (y.toNat : Int)] 5)) := by
  have := own_text (l := [x, y]) (own_two w x y)
  simpa [two] using this
theorem u8_mod (n : Nat) : (n : Int) % 256 = ((UInt8.ofNat n).toNat : Int) := by
  rw [UInt8.toNat_ofNat']; omega

set_option maxHeartbeats 800000 in
set_option maxRecDepth 100000 in
theorem pone_any (i : Nat) (w : World) (hi : i < 256) :
    Calls Tryz.prog 146 #[.int .i64 (i : Int)] w fun e w' => e = .returned (.string (by1 i)) ∧ Below w.heap.size w w' := by
  obtain ⟨x, hx⟩ : ∃ x, UInt8.ofNat i = x := ⟨_, rfl⟩
  have hv : (i : Int) = (x.toNat : Int) := by rw [← hx, UInt8.toNat_ofNat']; omega
  have hcv := one_text w x
  have hB : Box (Below w.heap.size w (w.alloc (.cells #[Value.int .u8 (x.toNat : Int)] 5))) := ⟨(Below.refl _ _).alloc (Nat.le_refl _) _⟩
  have hb : by1 i = one x := by rw [by1, hx]
  rw [hv, hb]
  have hxl : x.toNat < 256 := x.toNat_lt
  clear hx hv hb hi
  go_enter Tryz.func146, Tryz.ntmps146
  go_wp2_with fail
  go_ret
  exact ⟨rfl, hB.out⟩
set_option maxHeartbeats 800000 in
set_option maxRecDepth 100000 in
theorem ptwo_any (n : Nat) (w : World) (hn : n < 65536) :
    Calls Tryz.prog 145 #[.int .i64 (n : Int)] w fun e w' => e = .returned (.string (by2 n)) ∧ Below w.heap.size w w' := by
  obtain ⟨x, hx⟩ : ∃ x, UInt8.ofNat (n / 256) = x := ⟨_, rfl⟩
  obtain ⟨y, hy⟩ : ∃ y, UInt8.ofNat n = y := ⟨_, rfl⟩
  have hv : (n : Int) / 256 = (x.toNat : Int) := by rw [← hx, UInt8.toNat_ofNat']; omega
  have hv2 : (n : Int) % 256 = (y.toNat : Int) := by rw [← hy, UInt8.toNat_ofNat']; omega
  have hcv := two_text w x y
  have hB : Box (Below w.heap.size w (w.alloc (.cells #[Value.int .u8 (x.toNat : Int), Value.int .u8 (y.toNat : Int)] 5))) := ⟨(Below.refl _ _).alloc (Nat.le_refl _) _⟩
  have hb : by2 n = two x y := by rw [by2, hx, hy]
  rw [hb]
  have hxl : x.toNat < 256 := x.toNat_lt
  clear hx hy hb
  go_enter Tryz.func145, Tryz.ntmps145
  go_wp2_with fail
  go_ret
  exact ⟨rfl, hB.out⟩

/-- A new row of texts is a slice of them. -/
theorem parts_new (w : World) (ps : List ByteArray) (t : TypeId) : PartsAt (w.alloc (.cells (ps.map Value.string).toArray t)) (.slice (some ⟨w.heap.size, 0, none⟩) ps.length ps.length) ps := by
  refine ⟨some ⟨w.heap.size, 0, none⟩, ps.length, rfl, fun h0 => ⟨w.heap.size, 0, rfl, by simp, fun i hi => ?_⟩⟩
  rw [cell_of_row _ _ _ _ _ _ (heap_alloc_new w _)]
  simp [List.getD, hi]

set_option maxHeartbeats 1600000 in
set_option maxRecDepth 100000 in
theorem plinks_any (s : ByteArray) (n i a c : Nat) (w : World) (hK : KIs w) (hs : s.size = 16) (hn : n < 65536) (hi : i < 256) (hac : a + c ≤ 15) :
    Calls Tryz.prog 133 #[.string s, .int .i64 (n : Int), .int .i64 (i : Int), .int .i64 (a : Int), .int .i64 ((a + c : Nat) : Int)] w fun e w' => e = .returned (.string (linksV n i a c s)) ∧ Below w.heap.size w w' := by
  obtain ⟨b, hb⟩ : ∃ b, a + c = b := ⟨_, rfl⟩
  rw [hb]
  have hB0 : Box (Below w.heap.size w w) := ⟨Below.refl _ _⟩
  replace hK := Box.mk hK
  go_enter Tryz.func133, Tryz.ntmps133
  go_wp2_with fail
  go_loopw [0, 11] (fun v q wr => ∃ k : Nat, k ≤ c ∧ v = .string (linksV n i a k s) ∧ q = .int .i64 ((a : Int) + (k : Int)) ∧ Box (Below w.heap.size w wr)) (fun _ q _ => b - (intOf q).toNat)
  case atStart => exact ⟨0, by omega, rfl, by simp, hB0⟩
  case round =>
    clear hB0
    obtain ⟨k, hk, rfl, rfl, hB⟩ := hrel
    by_cases hlt : k < c
    · obtain ⟨x, hx⟩ : ∃ x, linksV n i a k s = x := ⟨_, rfl⟩
      have hxs : x.size = 16 := by rw [← hx]; exact linksV_size n i a s hs k
      have hnext : linkV n i (a + k) x = linksV n i a (k + 1) s := by rw [linksV, hx]
      have hT := ptwo_any n wr hn
      have hO := fun w => pone_any i w hi
      have hP := fun w => pone_any (a + k) w (by omega)
      rw [show ((a + k : Nat) : Int) = (a : Int) + (k : Int) by omega] at hP
      have hsz : (tagL 33 [by2 n, by1 i, by1 (a + k), x]).length ≤ 1152921504606846976 := by
        have h2 : (by2 n).size = 2 := rfl
        have h1 : (by1 i).size = 1 := rfl
        have h3 : (by1 (a + k)).size = 1 := rfl
        simp only [tagL, tagP, List.flatMap_cons, List.flatMap_nil, List.length_cons, List.length_append, data_len, be4_length, List.length_nil, h1, h2, h3, hxs]
        omega
      have hts := tagS_size 33 [by2 n, by1 i, by1 (a + k), x]
      have hval : (tagS 33 [by2 n, by1 i, by1 (a + k), x]).extract 0 16 = linksV n i a (k + 1) s := hnext
      obtain ⟨ts, hTS⟩ : ∃ ts, tagS 33 [by2 n, by1 i, by1 (a + k), x] = ts := ⟨_, rfl⟩
      have hTg := fun w1 (hK1 : KIs w1) => stagB_parts 33 (.slice (some ⟨w1.heap.size, 0, none⟩) 4 4) [by2 n, by1 i, by1 (a + k), x] (w1.alloc (.cells #[.string (by2 n), .string (by1 i), .string (by1 (a + k)), .string x] 9)) (parts_new w1 [by2 n, by1 i, by1 (a + k), x] 9) (hK1.below ((Below.refl _ _).alloc (Nat.le_refl _) _) hK1.lt) hsz (by simp)
      rw [show hashOf (tagL 33 [by2 n, by1 i, by1 (a + k), x]) = ts from hTS] at hTg
      rw [hTS] at hts hval
      have hKr : Box (KIs wr) := ⟨hK.out.below hB.out hK.out.lt⟩
      obtain ⟨y, hy⟩ : ∃ y, linksV n i a (k + 1) s = y := ⟨_, rfl⟩
      rw [hy] at hval
      rw [hx]
      replace hval := Box.mk hval
      replace hx := Box.mk hx
      replace hy := Box.mk hy
      clear hsz hTS hnext
      go_wp2_with fail
      refine hT.mono ?_
      rintro e w1 ⟨rfl, hb1⟩
      clear hT
      replace hb1 := Box.mk hb1
      go_wp2_with fail
      refine (hO w1).mono ?_
      rintro e w2 ⟨rfl, hb2⟩
      clear hO
      replace hb2 := Box.mk hb2
      have hB2 : Box (Below w.heap.size w w2) := ⟨(hB.out.trans (hb1.out.mono hB.out.size)).trans (hb2.out.mono (Nat.le_trans hB.out.size hb1.out.size))⟩
      clear hb1 hb2
      go_wp2_with fail
      refine (hP w2).mono ?_
      rintro e w3 ⟨rfl, hb3⟩
      clear hP
      have hB3 : Box (Below w.heap.size w w3) := ⟨hB2.out.trans (hb3.mono hB2.out.size)⟩
      have hF := hTg w3 (hK.out.below hB3.out hK.out.lt)
      clear hTg hb3 hB2
      go_wp2_with fail
      refine hF.mono ?_
      rintro e w4 ⟨rfl, hb4⟩
      clear hF
      have hB4 : Box (Below w.heap.size w w4) := ⟨(hB3.out.alloc hB3.out.size _).trans (hb4.mono (by have := hB3.out.size; simp; omega))⟩
      clear hb4
      go_wp2_with fail
      have hm : b - (intOf (Value.int IntKind.i64 ((a : Int) + (k : Int) + 1))).toNat < b - (intOf (Value.int IntKind.i64 ((a : Int) + (k : Int)))).toNat := by simp [intOf]; omega
      exact ⟨⟨k + 1, by omega, by rw [hval.out, hy.out], u_eq (by omega), hB4⟩, hm⟩
    · obtain rfl : k = c := by omega
      go_wp2_with fail
      go_ret
      exact ⟨rfl, hB.out⟩
set_option maxHeartbeats 800000 in
set_option maxRecDepth 100000 in
theorem ppub_any (s : ByteArray) (w : World) (hK : KIs w) (hs : s.size = 288) :
    Calls Tryz.prog 130 #[.string s] w fun e w' => e = .returned (.string (tagS 35 [s])) ∧ Below w.heap.size w w' := by
  have hsz : (tagL 35 [s]).length ≤ 1152921504606846976 := by
    simp only [tagL, tagP, List.flatMap_cons, List.flatMap_nil, List.length_cons, List.length_append, data_len, be4_length, List.length_nil, hs]
    omega
  have hF := stagB_parts 35 (.slice (some ⟨w.heap.size, 0, none⟩) 1 1) [s] (w.alloc (.cells #[.string s] 9)) (parts_new w [s] 9) (hK.below ((Below.refl _ _).alloc (Nat.le_refl _) _) hK.lt) hsz (by simp)
  rw [show hashOf (tagL 35 [s]) = tagS 35 [s] from rfl] at hF
  have hB : Box (Below w.heap.size w (w.alloc (.cells #[.string s] 9))) := ⟨(Below.refl _ _).alloc (Nat.le_refl _) _⟩
  clear hsz hK
  go_enter Tryz.func130, Tryz.ntmps130
  go_wp2_with fail
  refine hF.mono ?_
  rintro e w3 ⟨rfl, hb3⟩
  clear hF
  have hB3 : Box (Below w.heap.size w w3) := ⟨hB.out.trans (hb3.mono (by simp))⟩
  clear hb3
  go_wp2_with fail
  go_ret
  exact ⟨rfl, hB3.out⟩
end Go.Proofs.YtdjppgmaokcgiaaGreatDoor
