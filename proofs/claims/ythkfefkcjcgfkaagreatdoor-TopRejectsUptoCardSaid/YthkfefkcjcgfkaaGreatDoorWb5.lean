/- Walks of sha.hexValue and sha.Unhex. | Walk of sha.Unhex. | Walk of the first line of each law of this layer: the document's first example. | Walk of the law ShaHex. -/
import Derived.Test.YthkfefkcjcgfkaaGreatDoorWa6
set_option linter.all false
namespace Go.Proofs.YthkfefkcjcgfkaaGreatDoor
open Go.RowKit

set_option maxHeartbeats 400000 in
theorem hexValue_any (x : UInt8) (w : World) :
    Calls Tryz.prog 87 #[.int .u8 (x.toNat : Int)] w fun e w' => e = .returned (.tuple #[.int .u8 (hvN x : Int), .bool (hvB x)]) ∧ w = w' := by
  have hx := x.toNat_lt
  by_cases h1 : 48 ≤ x.toNat ∧ x.toNat ≤ 57
  · have e1 : (hvN x : Int) = (x.toNat : Int) - 48 := by unfold hvN; rw [if_pos h1]; omega
    have e2 : hvB x = true := by unfold hvB; simp; omega
    rw [e1, e2]
    clear e1 e2
    obtain ⟨h2, h3⟩ := h1
    have a1 : (48 : Int) ≤ (x.toNat : Int) := by omega
    have a2 : (x.toNat : Int) ≤ 57 := by omega
    go_enter Tryz.func87, Tryz.ntmps87
    go_wp2
    go_ret2
    exact ⟨rfl, rfl⟩
  · by_cases h2 : 97 ≤ x.toNat ∧ x.toNat ≤ 102
    · have e1 : (hvN x : Int) = (x.toNat : Int) - 97 + 10 := by unfold hvN; rw [if_neg h1, if_pos h2]; omega
      have e2 : hvB x = true := by unfold hvB; simp; omega
      rw [e1, e2]
      clear e1 e2
      obtain ⟨h3, h4⟩ := h2
      have a0 : ¬ (x.toNat : Int) ≤ 57 := by omega
      have a1 : (97 : Int) ≤ (x.toNat : Int) := by omega
      have a2 : (x.toNat : Int) ≤ 102 := by omega
      have a3 : decide ((x.toNat : Int) ≤ 57) = false := by simp; omega
      clear h1
      go_enter Tryz.func87, Tryz.ntmps87
      go_wp2
      go_ret2
      exact ⟨rfl, rfl⟩
    · have e1 : (hvN x : Int) = 0 := by unfold hvN; rw [if_neg h1, if_neg h2]; rfl
      have e2 : hvB x = false := by unfold hvB; simp; omega
      rw [e1, e2]
      clear e1 e2
      go_enter Tryz.func87, Tryz.ntmps87
      go_wp2
      all_goals (go_ret2; exact ⟨rfl, rfl⟩)

end Go.Proofs.YthkfefkcjcgfkaaGreatDoor

namespace Go.Proofs.YthkfefkcjcgfkaaGreatDoor
open Go.RowKit

theorem byte_new (w : World) (x : UInt8) : ∀ j, j < [x].length → (w.alloc (.cells #[Value.int .u8 (x.toNat : Int)] 5)).cell? ⟨w.heap.size, j, none⟩ = ([x].map yc)[j]? := by
  intro j hj
  obtain rfl : j = 0 := by simpa using hj
  rw [World.cell?_alloc_at _ _ _ _ rfl]; rfl

set_option maxHeartbeats 1600000 in
set_option maxRecDepth 100000 in
theorem unhex_odd (s : ByteArray) (w : World) (hs : s.size ≤ 140737488351232) (ho : s.size % 2 = 1) :
    Calls Tryz.prog 51 #[.string s] w fun e w' => e = .returned (.tuple #[.string (unT s.data.toList), .bool (unB s.data.toList)]) ∧ Below w.heap.size w w' := by
  have hn : unhexL s.data.toList = none := unhexL_odd (s.size / 2) _ (by rw [data_len]; omega)
  have e1 : unT s.data.toList = { data := #[] } := by unfold unT; rw [hn]; rfl
  have e2 : unB s.data.toList = false := by unfold unB; rw [hn]; rfl
  rw [e1, e2]
  clear hn e1 e2
  have e3 : (s.size : Int) % 2 = 1 := by omega
  go_enter Tryz.func51, Tryz.ntmps51
  go_wp2_with fail
  go_ret2
  exact ⟨rfl, Below.refl _ _⟩

set_option maxHeartbeats 1600000 in
set_option maxRecDepth 100000 in
theorem unhex_even (s : ByteArray) (w : World) (hs : s.size ≤ 70368744177664) (ho : s.size % 2 = 0) :
    Calls Tryz.prog 51 #[.string s] w fun e w' => e = .returned (.tuple #[.string (unT s.data.toList), .bool (unB s.data.toList)]) ∧ Below w.heap.size w w' := by
  obtain ⟨i0, hi, hz0, hz1, hz2⟩ := info_parts info5
  have e1 : Box ((s.size : Int) / 2 = ((s.size / 2 : Nat) : Int)) := ⟨by omega⟩
  have e2 : Box (i0.bytes * (s.size / 2) ≤ 281474976710656) := ⟨by rw [hz2]; omega⟩
  have e3 : Box (s.size / 2 ≤ maxLen) := ⟨by unfold maxLen; omega⟩
  have e4 : (s.size : Int) % 2 = 0 := by omega
  have HI := Box.mk hi
  have H0 := Box.mk hz0
  have H1 := Box.mk hz1
  clear hi hz0 hz1 hz2
  go_enter Tryz.func51, Tryz.ntmps51
  go_wp2_with (refine wpList_make_own _ rfl (.const (.int .i64 0)) (.tmp 16) 63 rfl w.heap.size 5 i0 (.int .u8 0) 1 Tryz.underlying63 HI.out H0.out H1.out .i64 .i64 _ (s.size / 2) rfl rfl e1.out e2.out e3.out (Nat.le_refl _) ?_; intro w1 hO1 hG1; have hO1' := Box.mk hO1; have hB1 := Box.mk ((Below.refl w.heap.size w).grown hG1 (Nat.le_refl _) (by intro k hk; cases hk)); clear hO1 hG1)
  go_loopw [4, 5] (fun s4 q wr => ∃ (k : Nat) (o : List UInt8), 2 * k ≤ s.size ∧ q = .int .i64 ((2 * k : Nat) : Int) ∧ Box (unhexL (s.data.toList.take (2 * k)) = some o) ∧ Box (wr.ownsRow w.heap.size 5 1 s4 o.length (o.map yc)) ∧ Box (Below w.heap.size w wr)) (fun _ q _ => s.size - (intOf q).toNat)
  case atStart => exact ⟨0, [], by omega, rfl, ⟨rfl⟩, hO1', hB1⟩
  case round =>
    clear hO1' hB1
    obtain ⟨k, o, hk, rfl, hU, hO, hB⟩ := hrel
    by_cases hlt : 2 * k + 1 < s.size
    · obtain ⟨x, hx⟩ : ∃ x, s[2 * k] = x := ⟨_, rfl⟩
      obtain ⟨y, hy⟩ : ∃ y, s[2 * k + 1] = y := ⟨_, rfl⟩
      go_wp2_with fail
      refine (hexValue_any x wr).mono ?_
      rintro e w' ⟨rfl, rfl⟩
      go_wp2_with fail
      refine (hexValue_any y wr).mono ?_
      rintro e w' ⟨rfl, rfl⟩
      have b1 := hvN_lt x
      have b2 := hvN_lt y
      have hor := pair_or x y
      by_cases hb : hvB x = true ∧ hvB y = true
      · obtain ⟨hb1, hb2⟩ := hb
        have hU2 : Box (unhexL (s.data.toList.take (2 * (k + 1))) = some (o ++ [pairB x y])) := ⟨by
          have := unhex_step s k o hlt hU.out (by rw [hx]; exact hb1) (by rw [hy]; exact hb2)
          rw [hx, hy] at this; exact this⟩
        have hol : o.length = k := unhexL_length k _ _ (by rw [List.length_take, data_len]; omega) hU.out
        have hB2 : Box (Below w.heap.size w (wr.alloc (.cells #[Value.int .u8 ((pairB x y).toNat : Int)] 5))) := ⟨hB.out.alloc hB.out.size _⟩
        have hsz : w.heap.size ≤ (wr.alloc (.cells #[Value.int .u8 ((pairB x y).toNat : Int)] 5)).heap.size := by have := hB.out.size; simp; omega
        have hO2 : Box ((wr.alloc (.cells #[Value.int .u8 ((pairB x y).toNat : Int)] 5)).ownsRow w.heap.size 5 1 u4 o.length (o.map yc)) := ⟨hO.out.alloc _⟩
        have hn := Box.mk (byte_new wr (pairB x y))
        have hcap : Box (o.length + [pairB x y].length ≤ 70368744177664) := ⟨by simp only [List.length_cons, List.length_nil]; omega⟩
        replace hol := Box.mk hol
        replace hsz := Box.mk hsz
        go_wp2_with (refine wpList_push rfl (.tmp 45) (.tmp 50) rfl w.heap.size _ o rfl hO2 wr.heap.size [pairB x y] rfl hn.out hcap.out hsz.out hB2 ?_; intro v2 w2 hO3 hB3)
        have hm : s.size - (intOf (Value.int IntKind.i64 (2 * ↑k + 2))).toNat < s.size - (intOf (Value.int IntKind.i64 ↑(2 * k))).toNat := by simp [intOf]; omega
        exact ⟨⟨k + 1, o ++ [pairB x y], by omega, u_eq (by omega), hU2, hO3, hB3⟩, hm⟩
      · have hnone : unhexL s.data.toList = none := unhex_bad s k o hlt hU.out (by
          rw [hx, hy]
          cases h1 : hvB x <;> cases h2 : hvB y <;> simp_all)
        have g1 : unT s.data.toList = { data := #[] } := by unfold unT; rw [hnone]; rfl
        have g2 : unB s.data.toList = false := by unfold unB; rw [hnone]; rfl
        replace g1 := Box.mk g1
        replace g2 := Box.mk g2
        clear hnone hor
        by_cases hb1 : hvB x = true
        · have hb2 : hvB y = false := by
            cases h : hvB y
            · rfl
            · exact absurd ⟨hb1, h⟩ hb
          clear hb
          go_wp2_with fail
          go_ret2
          rw [g1.out, g2.out]
          exact ⟨rfl, hB.out⟩
        · have hb2 : hvB x = false := by simpa using hb1
          clear hb hb1
          go_wp2_with fail
          all_goals
            go_ret2
            rw [g1.out, g2.out]
            exact ⟨rfl, hB.out⟩
    · have hend : 2 * k = s.size := by omega
      have hU' := hU.out
      rw [hend, List.take_of_length_le (by rw [data_len]; omega)] at hU'
      have g1 : unT s.data.toList = ⟨o.toArray⟩ := by unfold unT; rw [hU']; rfl
      have g2 : unB s.data.toList = true := by unfold unB; rw [hU']; rfl
      replace g1 := Box.mk g1
      replace g2 := Box.mk g2
      have hcv := own_text hO.out
      clear hU' hO hU
      go_wp2_with fail
      go_ret2
      rw [g1.out, g2.out]
      exact ⟨rfl, hB.out⟩
theorem unhex_any (s : ByteArray) (w : World) (hs : s.size ≤ 70368744177664) :
    Calls Tryz.prog 51 #[.string s] w fun e w' => e = .returned (.tuple #[.string (unT s.data.toList), .bool (unB s.data.toList)]) ∧ Below w.heap.size w w' := by
  rcases Nat.mod_two_eq_zero_or_one s.size with h | h
  · exact unhex_even s w hs h
  · exact unhex_odd s w (by omega) h
end Go.Proofs.YthkfefkcjcgfkaaGreatDoor

namespace Go.Proofs.YthkfefkcjcgfkaaGreatDoor
open Go.RowKit

theorem hash_size (m : List UInt8) : (hashOf m).size = 32 := rfl

end Go.Proofs.YthkfefkcjcgfkaaGreatDoor

namespace Go.Proofs.YthkfefkcjcgfkaaGreatDoor
open Go.RowKit

theorem digit_of : ∀ x : UInt8, hvB x = true → digit (hvN x) = x := by
  intro x h
  have hx := x.toNat_lt
  unfold hvB at h
  simp only [decide_eq_true_eq] at h
  apply UInt8.toNat_inj.1
  rcases h with h | h
  · have e : hvN x = x.toNat - 48 := by unfold hvN; rw [if_pos h]
    rw [e, digit, if_pos (by omega), UInt8.toNat_ofNat']; omega
  · have e : hvN x = x.toNat - 87 := by unfold hvN; rw [if_neg (by omega), if_pos h]
    rw [e, digit, if_neg (by omega), UInt8.toNat_ofNat']; omega
theorem hex_unhex : ∀ (n : Nat) (l o : List UInt8), l.length = n → unhexL l = some o → hexL o = l
  | 0, l, o, h, ho => by
    obtain rfl : l = [] := List.length_eq_zero_iff.1 h
    simp [unhexL] at ho; subst ho; rfl
  | 1, l, o, h, ho => by
    match l, h with
    | [a], _ => simp [unhexL] at ho
  | n + 2, l, o, h, ho => by
    match l, h with
    | a :: b :: r, h =>
      simp only [unhexL] at ho
      by_cases hb : (hvB a && hvB b) = true
      · rw [if_pos hb] at ho
        rw [Bool.and_eq_true] at hb
        cases hr : unhexL r with
        | none => rw [hr] at ho; simp at ho
        | some o' =>
          rw [hr] at ho
          simp at ho
          subst ho
          have ih := hex_unhex n r o' (by simp at h; omega) hr
          have e : hexL (pairB a b :: o') = digit ((pairB a b).toNat / 16) :: digit ((pairB a b).toNat % 16) :: hexL o' := rfl
          have h1 := hvN_lt a; have h2 := hvN_lt b
          rw [e, ih, pair_nat, show (16 * hvN a + hvN b) / 16 = hvN a by omega, show (16 * hvN a + hvN b) % 16 = hvN b by omega, digit_of a hb.1, digit_of b hb.2]
      · rw [if_neg hb] at ho; cases ho
theorem unT_size (s : ByteArray) : (unT s.data.toList).size ≤ s.size := by
  unfold unT
  cases hr : unhexL s.data.toList with
  | none => exact Nat.zero_le _
  | some o =>
    have h1 := hex_unhex _ _ _ rfl hr
    have h2 : (hexL o).length = 2 * o.length := hexL_length o
    rw [h1, data_len] at h2
    rw [← data_len]
    show o.length ≤ s.size
    omega

end Go.Proofs.YthkfefkcjcgfkaaGreatDoor
