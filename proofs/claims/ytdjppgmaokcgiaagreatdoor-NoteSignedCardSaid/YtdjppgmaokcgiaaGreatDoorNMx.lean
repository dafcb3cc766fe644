/- The hash of the document's first example, reckoned. No conditions. | Walk of the first line of each law of this layer: the document's first example. | Walks of the document's Unhex and Hex. | Walk of the law ShaHex. | Rows of texts that are cut, made and appended to (out of TrA and TxR), for package note. | Notes and checkpoints, on lists: lines, what each side takes a text for, and that both take a good one for what it is. | Walks of note.goodOrigin, unhex, goodCheckpoint and of the document's Origin. | What stands in the program's memory; walks of note.number, Text and of the document's size, Text, lines. | A strings.Builder in memory: WriteString told with just what it changes. | Signatures in memory: a slice of them; a row of one's own. | Walks of note.Parse and of the document's Parse. | Walks of note.badSig, of slices.IndexFunc and ContainsFunc over signatures, of note.goodText, goodNote. | Walk of note.Format. | Walks of the document's Good and Format. | Walks of note.readSig, readSigs. | Walk of note.Read. -/
import Derived.Deep.Upon
import Derived.Lib.AtoiAllCases
import Derived.Lib.IndexMore
import Derived.Lib.Split
import Derived.Lib.ItoaNum
import Derived.Lib.ItoaLen
import Derived.Laws.StructEq
import Derived.Test.YtdjppgmaokcgiaaGreatDoorHexA
import Derived.Test.YtdjppgmaokcgiaaGreatDoorHexC
import Derived.Test.YtdjppgmaokcgiaaGreatDoorShaH
import Derived.Test.YtdjppgmaokcgiaaGreatDoorQq
import Derived.Test.YtdjppgmaokcgiaaGreatDoorQz
import Derived.Test.YtdjppgmaokcgiaaGreatDoorKRow
import Derived.Test.YtdjppgmaokcgiaaGreatDoorNtL
import Derived.Test.YtdjppgmaokcgiaaGreatDoorNtLb
import Derived.Test.YtdjppgmaokcgiaaGreatDoorBld
namespace Go.Proofs.YtdjppgmaokcgiaaGreatDoor
open Go.RowKit
def abcHex : List UInt8 := [98, 97, 55, 56, 49, 54, 98, 102, 56, 102, 48, 49, 99, 102, 101, 97, 52, 49, 52, 49, 52, 48, 100, 101, 53, 100, 97, 101, 50, 50, 50, 51, 98, 48, 48, 51, 54, 49, 97, 51, 57, 54, 49, 55, 55, 97, 57, 99, 98, 52, 49, 48, 102, 102, 54, 49, 102, 50, 48, 48, 49, 53, 97, 100]
set_option maxRecDepth 100000 in
theorem abc_hex : hexL (hashL [97, 98, 99]) = abcHex := by decide +kernel
end Go.Proofs.YtdjppgmaokcgiaaGreatDoor

namespace Go.Proofs.YtdjppgmaokcgiaaGreatDoor
open Go.RowKit

def abc : ByteArray := { data := #[97, 98, 99] }
theorem flat_one (s : ByteArray) : flat [s] = s.data.toList := by simp [flat]
theorem abc_text : (⟨(hexL (hashOf [97, 98, 99]).data.toList).toArray⟩ : ByteArray) = ⟨abcHex.toArray⟩ := by
  have : (hashOf [97, 98, 99]).data.toList = hashL [97, 98, 99] := rfl
  rw [this, abc_hex]
theorem hash_size (m : List UInt8) : (hashOf m).size = 32 := rfl

end Go.Proofs.YtdjppgmaokcgiaaGreatDoor

namespace Go.Proofs.YtdjppgmaokcgiaaGreatDoor
open Go.RowKit

theorem pair_sum (a b : UInt8) : IntKind.u8.wrap (16 * (hvN a : Int) + (hvN b : Int)) = ((pairB a b).toNat : Int) := by
  have h1 := hvN_lt a; have h2 := hvN_lt b
  rw [pair_nat, IntKind.wrap_u8]; omega

set_option maxHeartbeats 1600000 in
set_option maxRecDepth 100000 in
theorem runhex_odd (s : ByteArray) (w : World) (hs : s.size ≤ 140737488351232) (ho : s.size % 2 = 1) :
    Calls Tryz.prog 50 #[.string s] w fun e w' => e = .returned (.tuple #[.string (unT s.data.toList), .bool (unB s.data.toList)]) ∧ Below w.heap.size w w' := by
  have hn : unhexL s.data.toList = none := unhexL_odd (s.size / 2) _ (by rw [data_len]; omega)
  have e1 : unT s.data.toList = { data := #[] } := by unfold unT; rw [hn]; rfl
  have e2 : unB s.data.toList = false := by unfold unB; rw [hn]; rfl
  rw [e1, e2]
  clear hn e1 e2
  have e3 : (s.size : Int) % 2 = 1 := by omega
  go_enter Tryz.func50, Tryz.ntmps50
  go_wp2_with fail
  go_ret2
  exact ⟨rfl, Below.refl _ _⟩

set_option maxHeartbeats 1600000 in
set_option maxRecDepth 100000 in
theorem runhex_even (s : ByteArray) (w : World) (hs : s.size ≤ 70368744177664) (ho : s.size % 2 = 0) :
    Calls Tryz.prog 50 #[.string s] w fun e w' => e = .returned (.tuple #[.string (unT s.data.toList), .bool (unB s.data.toList)]) ∧ Below w.heap.size w w' := by
  have e4 : (s.size : Int) % 2 = 0 := by omega
  have hO1' : Box (w.ownsRow w.heap.size 5 1 (.slice none 0 0) 0 []) := ⟨World.ownsRow_nil w _ _ _⟩
  have hB1 : Box (Below w.heap.size w w) := ⟨Below.refl _ _⟩
  go_enter Tryz.func50, Tryz.ntmps50
  go_wp2_with fail
  go_loopw [4, 5] (fun s4 q wr => ∃ (k : Nat) (o : List UInt8), 2 * k ≤ s.size ∧ q = .int .i64 ((2 * k : Nat) : Int) ∧ Box (unhexL (s.data.toList.take (2 * k)) = some o) ∧ Box (wr.ownsRow w.heap.size 5 1 s4 o.length (o.map yc)) ∧ Box (Below w.heap.size w wr)) (fun _ q _ => s.size - (intOf q).toNat)
  case atStart => exact ⟨0, [], by omega, rfl, ⟨rfl⟩, hO1', hB1⟩
  case round =>
    clear hO1' hB1 e4
    obtain ⟨k, o, hk, rfl, hU, hO, hB⟩ := hrel
    by_cases hlt : 2 * k + 1 < s.size
    · obtain ⟨x, hx⟩ : ∃ x, s[2 * k] = x := ⟨_, rfl⟩
      obtain ⟨y, hy⟩ : ∃ y, s[2 * k + 1] = y := ⟨_, rfl⟩
      go_wp2_with fail
      refine (digit_any x wr).mono ?_
      rintro e w' ⟨rfl, rfl⟩
      go_wp2_with fail
      refine (digit_any y wr).mono ?_
      rintro e w' ⟨rfl, rfl⟩
      have b1 := hvN_lt x
      have b2 := hvN_lt y
      have hor := pair_sum x y
      by_cases hb : hvB x = true ∧ hvB y = true
      · obtain ⟨hb1, hb2⟩ := hb
        have d1 : dgI x = (hvN x : Int) := by unfold dgI; rw [if_pos hb1]
        have d2 : dgI y = (hvN y : Int) := by unfold dgI; rw [if_pos hb2]
        rw [d1, d2]
        have hU2 : Box (unhexL (s.data.toList.take (2 * (k + 1))) = some (o ++ [pairB x y])) := ⟨by
          have := unhex_step s k o hlt hU.out (by rw [hx]; exact hb1) (by rw [hy]; exact hb2)
          rw [hx, hy] at this; exact this⟩
        have hol : o.length = k := unhexL_length k _ _ (by rw [List.length_take, data_len]; omega) hU.out
        have hB2 : Box (Below w.heap.size w (wr.alloc (.cells #[Value.int .u8 ((pairB x y).toNat : Int)] 5))) := ⟨hB.out.alloc hB.out.size _⟩
        have hsz : w.heap.size ≤ (wr.alloc (.cells #[Value.int .u8 ((pairB x y).toNat : Int)] 5)).heap.size := by have := hB.out.size; simp; omega
        have hO2 : Box ((wr.alloc (.cells #[Value.int .u8 ((pairB x y).toNat : Int)] 5)).ownsRow w.heap.size 5 1 u4 o.length (o.map yc)) := ⟨hO.out.alloc _⟩
        have hn := Box.mk (byte_new wr (pairB x y))
        have hcap : Box (o.length + [pairB x y].length ≤ 70368744177664) := ⟨by simp only [List.length_cons, List.length_nil]; omega⟩
        replace hol := Box.mk hol
        replace hsz := Box.mk hsz
        go_wp2_with (refine wpList_push rfl (.tmp 33) (.tmp 39) rfl w.heap.size _ o rfl hO2 wr.heap.size [pairB x y] rfl hn.out hcap.out hsz.out hB2 ?_; intro v2 w2 hO3 hB3)
        have hm : s.size - (intOf (Value.int IntKind.i64 (2 * ↑k + 2))).toNat < s.size - (intOf (Value.int IntKind.i64 ↑(2 * k))).toNat := by simp [intOf]; omega
        exact ⟨⟨k + 1, o ++ [pairB x y], by omega, u_eq (by omega), hU2, hO3, hB3⟩, hm⟩
      · have hnone : unhexL s.data.toList = none := unhex_bad s k o hlt hU.out (by
          rw [hx, hy]
          cases h1 : hvB x <;> cases h2 : hvB y <;> simp_all)
        have g1 : unT s.data.toList = { data := #[] } := by unfold unT; rw [hnone]; rfl
        have g2 : unB s.data.toList = false := by unfold unB; rw [hnone]; rfl
        replace g1 := Box.mk g1
        replace g2 := Box.mk g2
        clear hnone hor
        by_cases hb1 : hvB x = true
        · have hb2 : hvB y = false := by
            cases h : hvB y
            · rfl
            · exact absurd ⟨hb1, h⟩ hb
          have d1 : dgI x = (hvN x : Int) := by unfold dgI; rw [if_pos hb1]
          have d2 : dgI y = -1 := by unfold dgI; rw [if_neg (by rw [hb2]; decide)]
          rw [d1, d2]
          clear hb
          go_wp2_with fail
          go_ret2
          rw [g1.out, g2.out]
          exact ⟨rfl, hB.out⟩
        · have hb2 : hvB x = false := by simpa using hb1
          have d1 : dgI x = -1 := by unfold dgI; rw [if_neg (by rw [hb2]; decide)]
          rw [d1]
          clear hb hb1
          go_wp2_with fail
          all_goals
            go_ret2
            rw [g1.out, g2.out]
            exact ⟨rfl, hB.out⟩
    · have hend : 2 * k = s.size := by omega
      have hU' := hU.out
      rw [hend, List.take_of_length_le (by rw [data_len]; omega)] at hU'
      have g1 : unT s.data.toList = ⟨o.toArray⟩ := by unfold unT; rw [hU']; rfl
      have g2 : unB s.data.toList = true := by unfold unB; rw [hU']; rfl
      replace g1 := Box.mk g1
      replace g2 := Box.mk g2
      have hcv := own_text hO.out
      clear hU' hO hU
      go_wp2_with fail
      go_ret2
      rw [g1.out, g2.out]
      exact ⟨rfl, hB.out⟩
theorem runhex_any (s : ByteArray) (w : World) (hs : s.size ≤ 70368744177664) :
    Calls Tryz.prog 50 #[.string s] w fun e w' => e = .returned (.tuple #[.string (unT s.data.toList), .bool (unB s.data.toList)]) ∧ Below w.heap.size w w' := by
  rcases Nat.mod_two_eq_zero_or_one s.size with h | h
  · exact runhex_even s w hs h
  · exact runhex_odd s w (by omega) h
set_option maxHeartbeats 800000 in
set_option maxRecDepth 100000 in
theorem rhex_any (s : ByteArray) (w : World) (hs : s.size ≤ 35184372088832) :
    Calls Tryz.prog 18 #[.string s] w fun e w' => e = .returned (.string ⟨(hexL s.data.toList).toArray⟩) ∧ Below w.heap.size w w' := by
  obtain ⟨i0, hi, hz0, hz1, hz2⟩ := info_parts info5
  have HI := Box.mk hi
  have H0 := Box.mk hz0
  have H1 := Box.mk hz1
  have H2 := Box.mk hz2
  clear hi hz0 hz1 hz2
  have hO1' : Box (w.ownsRow w.heap.size 5 1 (.slice none 0 0) (2 * 0) ((hexL (s.data.toList.take 0)).map yc)) := ⟨World.ownsRow_nil w _ _ _⟩
  have hB1 : Box (Below w.heap.size w w) := ⟨Below.refl _ _⟩
  go_enter Tryz.func18, Tryz.ntmps18
  go_wp2_with fail
  go_loopw [4, 5] (fun s3 q wr => ∃ i : Nat, i ≤ s.size ∧ q = .int .i64 i ∧ Box (wr.ownsRow w.heap.size 5 1 s3 (2 * i) ((hexL (s.data.toList.take i)).map yc)) ∧ Box (Below w.heap.size w wr)) (fun _ q _ => s.size - (intOf q).toNat)
  case atStart => exact ⟨0, by omega, rfl, hO1', hB1⟩
  case round =>
    clear hO1' hB1
    obtain ⟨i, hi, rfl, hO, hB⟩ := hrel
    by_cases hlt : i < s.size
    · obtain ⟨x, hx⟩ : ∃ x, s[i] = x := ⟨_, rfl⟩
      have hxl := x.toNat_lt
      have b1 : (0 : Int) ≤ (x.toNat : Int) / 16 ∧ (x.toNat : Int) / 16 < 16 := by omega
      have b2 : (0 : Int) ≤ (x.toNat : Int) % 16 ∧ (x.toNat : Int) % 16 < 16 := by omega
      go_wp2_with fail
      refine region_calm_tail (C := fun _ => True) 13 (by kernel_rfl) (by kernel_rfl) (by kernel_rfl) True.intro ?_
      simp only [List.take_succ_cons, List.take_zero, List.drop_succ_cons, List.drop_zero]
      repeat (go_big_quiet_step (first | exact fun _ => rfl | rfl))
      refine wpQuiet_nil ?_
      have g1 : ∀ h, ({ data := #[48, 49, 50, 51, 52, 53, 54, 55, 56, 57, 97, 98, 99, 100, 101, 102] } : ByteArray)[x.toNat / 16]'h = digit (x.toNat / 16) := fun h => hexLit_get _ h
      have g2 : ∀ h, ({ data := #[48, 49, 50, 51, 52, 53, 54, 55, 56, 57, 97, 98, 99, 100, 101, 102] } : ByteArray)[x.toNat % 16]'h = digit (x.toNat % 16) := fun h => hexLit_get _ h
      simp only [g1, g2]
      clear g1 g2
      obtain ⟨d1, hd1⟩ : ∃ d, digit (x.toNat / 16) = d := ⟨_, rfl⟩
      obtain ⟨d2, hd2⟩ : ∃ d, digit (x.toNat % 16) = d := ⟨_, rfl⟩
      simp only [hd1, hd2]
      replace hd1 := Box.mk hd1
      replace hd2 := Box.mk hd2
      replace hx := Box.mk hx
      clear b1 b2
      refine chain_step rfl (fun K hK => ?_)
      go_simp
      refine hK _ _ True.intro ?_
      clear hK K
      refine chain_step rfl (fun K hK => ?_)
      have hO2 : (wr.alloc (.cells #[Value.int IntKind.u8 ↑d1.toNat, Value.int IntKind.u8 ↑d2.toNat] 5)).drew.ownsRow w.heap.size 5 1 u4 (2 * i) ((hexL (s.data.toList.take i)).map yc) := hO.out.alloc _
      have c1 : ∀ j u, [Value.int IntKind.u8 (d1.toNat : Int), Value.int IntKind.u8 (d2.toNat : Int)][j]? = some u → (wr.alloc (.cells #[Value.int IntKind.u8 (d1.toNat : Int), Value.int IntKind.u8 (d2.toNat : Int)] 5)).drew.cell? ((⟨wr.heap.size, 0, none⟩ : Addr).add j) = some u := by
        intro j u hj
        have hadd : (⟨wr.heap.size, 0, none⟩ : Addr).add j = ⟨wr.heap.size, j, none⟩ := by unfold Addr.add; split <;> simp_all
        rw [hadd]
        show (wr.alloc _).cell? _ = _
        rw [World.cell?_alloc_at _ _ _ _ rfl]
        simpa using hj
      have c2 : ∀ u ∈ [Value.int IntKind.u8 (d1.toNat : Int), Value.int IntKind.u8 (d2.toNat : Int)], u.oneCell' = true := by
        intro u hu; simp at hu; obtain rfl | rfl := hu <;> rfl
      have c3 : 2 * i + 2 ≤ maxLen := by unfold maxLen; omega
      have c4 : (2 * i + 2) * 1 ≤ 140737488355328 := by omega
      have c5 : w.heap.size ≤ (wr.alloc (.cells #[Value.int IntKind.u8 ↑d1.toNat, Value.int IntKind.u8 ↑d2.toNat] 5)).drew.heap.size := by
        have := hB.out.size
        show _ ≤ (wr.alloc _).heap.size
        simp; omega
      refine wp_append_own _ (.tmp 12) (.tmp 25) 24 rfl w.heap.size 5 i0 (.int .u8 0) 1 1 Tryz.underlying24 HI.out H0.out H1.out H2.out rfl (by decide) _ (2 * i) _ rfl hO2 ⟨wr.heap.size, 0, none⟩ 2 2 [Value.int IntKind.u8 ↑d1.toNat, Value.int IntKind.u8 ↑d2.toNat] rfl rfl c1 c2 c3 c4 c5 ?_
      intro v2 w2 hO3 hG3 _
      refine hK _ _ True.intro ?_
      clear hK K c1 c2 c3 c4 c5
      refine chain_step rfl (fun K hK => ?_)
      go_simp
      refine hK _ _ True.intro ?_
      clear hK K
      refine chain_nil ?_
      have hB3 : Box (Below w.heap.size w w2) := by
        have h1 := (hB.out.alloc hB.out.size (.cells #[Value.int IntKind.u8 ↑d1.toNat, Value.int IntKind.u8 ↑d2.toNat] 5)).drew
        refine ⟨h1.grown hG3 ?_ ?_⟩
        · have := hB.out.size
          show _ ≤ (wr.alloc _).heap.size
          simp; omega
        · intro k hk; exact (hO.out.lt k hk).1
      replace hO3 := Box.mk hO3
      clear hG3 hO2
      go_wp2_with fail
      have hm : s.size - (intOf (Value.int IntKind.i64 (↑i + 1))).toNat < s.size - (intOf (Value.int IntKind.i64 ↑i)).toNat := by simp [intOf]; omega
      refine ⟨⟨i + 1, by omega, by go_num, ⟨?_⟩, hB3⟩, hm⟩
      rw [get_take s i hlt, hx.out, hexL_snoc _ _ _ _ hd1.out hd2.out, show 2 * (i + 1) = 2 * i + 2 by omega]
      exact hO3.out
    · obtain rfl : i = s.size := by omega
      have ht : s.data.toList.take s.size = s.data.toList := List.take_of_length_le (by rw [data_len]; omega)
      have hO' := hO.out
      rw [ht] at hO'
      have hl : (hexL s.data.toList).length = 2 * s.size := by rw [hexL_length, data_len]
      rw [← hl] at hO'
      have hcv := own_text hO'
      clear hO hO' hl ht
      go_wp2_with fail
      go_returns
      exact ⟨rfl, hB.out⟩
end Go.Proofs.YtdjppgmaokcgiaaGreatDoor

namespace Go.Proofs.YtdjppgmaokcgiaaGreatDoor
open Go.RowKit

theorem digit_back : ∀ n : Fin 16, hvB (digit n.val) = true ∧ hvN (digit n.val) = n.val := by decide +kernel
theorem digit_of : ∀ x : UInt8, hvB x = true → digit (hvN x) = x := by
  intro x h
  have hx := x.toNat_lt
  unfold hvB at h
  simp only [decide_eq_true_eq] at h
  apply UInt8.toNat_inj.1
  rcases h with h | h
  · have e : hvN x = x.toNat - 48 := by unfold hvN; rw [if_pos h]
    rw [e, digit, if_pos (by omega), UInt8.toNat_ofNat']; omega
  · have e : hvN x = x.toNat - 87 := by unfold hvN; rw [if_neg (by omega), if_pos h]
    rw [e, digit, if_neg (by omega), UInt8.toNat_ofNat']; omega
theorem unhex_hex : ∀ l : List UInt8, unhexL (hexL l) = some l
  | [] => rfl
  | x :: l => by
    have hx := x.toNat_lt
    have h1 := digit_back ⟨x.toNat / 16, by omega⟩
    have h2 := digit_back ⟨x.toNat % 16, by omega⟩
    have e : hexL (x :: l) = digit (x.toNat / 16) :: digit (x.toNat % 16) :: hexL l := rfl
    simp only at h1 h2
    rw [e, unhexL, h1.1, h2.1, unhex_hex l]
    have e2 : pairB (digit (x.toNat / 16)) (digit (x.toNat % 16)) = x := by
      apply UInt8.toNat_inj.1
      rw [pair_nat, h1.2, h2.2]; omega
    simp [e2]
theorem hex_unhex : ∀ (n : Nat) (l o : List UInt8), l.length = n → unhexL l = some o → hexL o = l
  | 0, l, o, h, ho => by
    obtain rfl : l = [] := List.length_eq_zero_iff.1 h
    simp [unhexL] at ho; subst ho; rfl
  | 1, l, o, h, ho => by
    match l, h with
    | [a], _ => simp [unhexL] at ho
  | n + 2, l, o, h, ho => by
    match l, h with
    | a :: b :: r, h =>
      simp only [unhexL] at ho
      by_cases hb : (hvB a && hvB b) = true
      · rw [if_pos hb] at ho
        rw [Bool.and_eq_true] at hb
        cases hr : unhexL r with
        | none => rw [hr] at ho; simp at ho
        | some o' =>
          rw [hr] at ho
          simp at ho
          subst ho
          have ih := hex_unhex n r o' (by simp at h; omega) hr
          have e : hexL (pairB a b :: o') = digit ((pairB a b).toNat / 16) :: digit ((pairB a b).toNat % 16) :: hexL o' := rfl
          have h1 := hvN_lt a; have h2 := hvN_lt b
          rw [e, ih, pair_nat, show (16 * hvN a + hvN b) / 16 = hvN a by omega, show (16 * hvN a + hvN b) % 16 = hvN b by omega, digit_of a hb.1, digit_of b hb.2]
      · rw [if_neg hb] at ho; cases ho
theorem unT_hex (s : ByteArray) : unT (hexL s.data.toList) = s := by
  unfold unT; rw [unhex_hex]; rfl
theorem unB_hex (s : ByteArray) : unB (hexL s.data.toList) = true := by
  unfold unB; rw [unhex_hex]; rfl
theorem hex_unT (s : ByteArray) (h : unB s.data.toList = true) : (⟨(hexL (unT s.data.toList).data.toList).toArray⟩ : ByteArray) = s := by
  unfold unB at h
  cases hr : unhexL s.data.toList with
  | none => rw [hr] at h; cases h
  | some o =>
    have e : (unT s.data.toList).data.toList = o := by unfold unT; rw [hr]; rfl
    rw [e, hex_unhex _ _ _ rfl hr]
theorem unT_size (s : ByteArray) : (unT s.data.toList).size ≤ s.size := by
  unfold unT
  cases hr : unhexL s.data.toList with
  | none => exact Nat.zero_le _
  | some o =>
    have h1 := hex_unhex _ _ _ rfl hr
    have h2 : (hexL o).length = 2 * o.length := hexL_length o
    rw [h1, data_len] at h2
    rw [← data_len]
    show o.length ≤ s.size
    omega

end Go.Proofs.YtdjppgmaokcgiaaGreatDoor

namespace Go.Proofs.YtdjppgmaokcgiaaGreatDoor.Nt
open Go Go.RowKit

theorem mono_bel {B : Nat} {w w1 w2 : World} (h : Below B w w1) (k : Below w1.heap.size w1 w2) (hB : B ≤ w.heap.size) : Below B w w2 := h.trans (k.mono (Nat.le_trans hB h.size))
theorem dB (w : World) : Below w.heap.size w w.drew := Drawn.below ⟨1, rfl⟩
theorem bel_alloc (w : World) (o : Obj) : Below w.heap.size w (w.alloc o) := (Below.refl _ _).alloc (Nat.le_refl _) _
/-- A new row of texts is a slice of them. -/
theorem parts_new (w : World) (ps : List ByteArray) (t : TypeId) : PartsAt (w.alloc (.cells (ps.map Value.string).toArray t)) (.slice (some ⟨w.heap.size, 0, none⟩) ps.length ps.length) ps := by
  refine ⟨some ⟨w.heap.size, 0, none⟩, ps.length, rfl, fun h0 => ⟨w.heap.size, 0, rfl, by simp, fun i hi => ?_⟩⟩
  rw [cell_of_row _ _ _ _ _ _ (heap_alloc_new w _)]
  simp [List.getD, hi]
/-- A slice of these texts, with room behind it. -/
structure PA (w : World) (a : Option Addr) (n c : Nat) (l : List ByteArray) : Prop where
  len : l.length = n
  cap : n ≤ c
  top : c ≤ 9223372036854775807
  at_ : 0 < n → ∃ blk off, a = some ⟨blk, off, none⟩ ∧ blk < w.heap.size ∧ ∀ i, i < n → w.cell? ⟨blk, off + i, none⟩ = some (.string (l.getD i ByteArray.empty))
theorem PA.parts {w : World} {a : Option Addr} {n c : Nat} {l : List ByteArray} (h : PA w a n c l) : PartsAt w (.slice a n c) l := by
  refine ⟨a, c, by rw [h.len], fun h0 => ?_⟩
  rw [h.len] at h0 ⊢
  exact h.at_ h0
theorem PA.here {w w' : World} {a : Option Addr} {n c : Nat} {l : List ByteArray} (h : PA w a n c l) (hb : Below w.heap.size w w') : PA w' a n c l :=
  ⟨h.len, h.cap, h.top, fun h0 => by
    obtain ⟨blk, off, rfl, hl, hc⟩ := h.at_ h0
    exact ⟨blk, off, rfl, Nat.lt_of_lt_of_le hl hb.size, fun i hi => by rw [hb.cell (p := ⟨blk, off + i, none⟩) hl]; exact hc i hi⟩⟩
theorem PA.take {w : World} {a : Option Addr} {n c k : Nat} {l : List ByteArray} (h : PA w a n c l) (hk : k ≤ n) : PA w a k c (l.take k) :=
  ⟨by simp [h.len]; omega, Nat.le_trans hk h.cap, h.top, fun h0 => by
    obtain ⟨blk, off, rfl, hl, hc⟩ := h.at_ (by omega)
    exact ⟨blk, off, rfl, hl, fun i hi => by rw [hc i (by omega)]; simp [List.getD, hi]⟩⟩
theorem PA.drop {w : World} {blk off n c k : Nat} {l : List ByteArray} (h : PA w (some ⟨blk, off, none⟩) n c l) (hk : k ≤ n) : PA w (some ⟨blk, off + k, none⟩) (n - k) (c - k) (l.drop k) :=
  ⟨by simp [h.len], by have := h.cap; omega, by have := h.top; omega, fun h0 => by
    obtain ⟨b2, o2, e, hl, hc⟩ := h.at_ (by omega)
    cases e
    exact ⟨blk, off + k, rfl, hl, fun i hi => by rw [Nat.add_assoc, hc (k + i) (by omega)]; simp [List.getD, List.getElem?_drop]⟩⟩

theorem info_s : (Tryz.prog.info? 9).map (fun i => (i.zero, i.size, i.bytes)) = some (some (.string ⟨#[]⟩), 1, 16) := by kernel_rfl
/-- v owns a row of these texts, in a block from B on. -/
def TxR (B : Nat) (w : World) (v : Value) (ids : List ByteArray) : Prop := w.ownsRow B 9 1 v ids.length (ids.map Value.string)
theorem TxR.shape {B : Nat} {w : World} {v : Value} {ids : List ByteArray} (h : TxR B w v ids) : ∃ a c, v = .slice a ids.length c := by
  obtain ⟨_, ⟨rfl, h0⟩ | ⟨g, cap, cur, rfl, _⟩⟩ := h
  · exact ⟨none, 0, by rw [h0]⟩
  · exact ⟨_, _, rfl⟩
theorem TxR.parts {B : Nat} {w : World} {v : Value} {ids : List ByteArray} (h : TxR B w v ids) : PartsAt w v ids := by
  have hh := h
  obtain ⟨hx, ⟨rfl, h0⟩ | ⟨g, cap, cur, rfl, b1, hg, b2⟩⟩ := h
  · obtain rfl : ids = [] := List.length_eq_zero_iff.1 h0
    exact ⟨none, 0, rfl, fun h => absurd h (Nat.lt_irrefl 0)⟩
  · refine ⟨_, cap, rfl, fun h0 => ⟨g, 0, rfl, (Array.getElem?_eq_some_iff.1 hg).1, fun i hi => ?_⟩⟩
    have := World.ownsRow.cells (g := g) hh rfl i (.string (ids.getD i ByteArray.empty)) (by simp [hi, List.getD])
    have hadd : (⟨g, 0, none⟩ : Addr).add i = ⟨g, 0 + i, none⟩ := by unfold Addr.add; split <;> simp_all
    rw [hadd] at this; exact this
theorem TxR.here {B : Nat} {w w' : World} {v : Value} {ids : List ByteArray} (h : TxR B w v ids) (hb : Below w.heap.size w w') : TxR B w' v ids := by
  obtain ⟨hx, h0 | ⟨g, cap, cur, rfl, b1, hg, b2⟩⟩ := h
  · exact ⟨hx, .inl h0⟩
  · exact ⟨hx, .inr ⟨g, cap, cur, rfl, b1, (hb.block g (Array.getElem?_eq_some_iff.1 hg).1).trans hg, b2⟩⟩
theorem TxR.base {B C : Nat} {w : World} {v : Value} {ids : List ByteArray} (h : TxR B w v ids) (hC : C ≤ B) : TxR C w v ids := by
  obtain ⟨hx, h0 | ⟨g, cap, cur, rfl, b1, hg, b2⟩⟩ := h
  · exact ⟨hx, .inl h0⟩
  · exact ⟨hx, .inr ⟨g, cap, cur, rfl, Nat.le_trans hC b1, hg, b2⟩⟩
/-- What an append of texts leaves. -/
structure PushedT (B : Nat) (w : World) (v : Value) (ids : List ByteArray) (v' : Value) (w' : World) : Prop where
  row : TxR B w' v' ids
  chg : Pk.Chg (fun i => v.ownBlock = some i) w w'
  place : ∀ k, v'.ownBlock = some k → v.ownBlock = some k ∨ w.heap.size ≤ k
theorem TxR.own {B : Nat} {w : World} {v : Value} {ids : List ByteArray} (h : TxR B w v ids) (k : Nat) (hk : v.ownBlock = some k) : B ≤ k ∧ k < w.heap.size := World.ownsRow.lt h k hk
theorem TxR.of_row {B : Nat} {w : World} {v : Value} {ids : List ByteArray} (h : Pk.Row w 9 1 v ids.length (ids.map Value.string)) (hB : ∀ k, v.ownBlock = some k → B ≤ k) : TxR B w v ids := by
  obtain ⟨hx, h0 | ⟨g, cap, cur, rfl, b1, b2⟩⟩ := h
  · exact ⟨hx, .inl h0⟩
  · exact ⟨hx, .inr ⟨g, cap, cur, rfl, hB g rfl, b2⟩⟩
theorem push_texts (B : Nat) (w : World) (ty : TypeId) (v : Value) (ids zs : List ByteArray) (h : TxR B w v ids) (hB : B ≤ w.heap.size) (a : Option Addr) (m c : Nat) (hm : zs.length = m) (hz : PartsAt w (.slice a m c) zs) (hlen : (ids.length + m) * 16 ≤ 140737488355328) :
    ∃ v' w', (Builtin.append_ #[29, 29] ty #[v, .slice a m c]).run Tryz.prog w = .ok v' w' ∧ PushedT B w v (ids ++ zs) v' w' := by
  obtain ⟨i0, hi, hz0, hz1, hz2⟩ := info_parts info_s
  subst hm
  obtain ⟨a2, c2, e2, hh⟩ := hz.ex
  cases e2
  by_cases h0 : 0 < zs.length
  · obtain ⟨blk, off, rfl, hb, hc⟩ := hh h0
    obtain ⟨v', w', hr, hp⟩ := Pk.push_row (P := Tryz.prog) w 29 ty 9 i0 (.string ⟨#[]⟩) 1 16 Tryz.underlying29 hi hz0 hz1 hz2 rfl (by decide) v ids.length (ids.map Value.string) (TxR.base h (Nat.zero_le _)) ⟨blk, off, none⟩ zs.length c (zs.map Value.string) (by simp)
      (fun j u hj => by
        have hjl : j < zs.length := by
          rcases Nat.lt_or_ge j zs.length with h | h
          · exact h
          · rw [List.getElem?_eq_none (by simpa using h)] at hj; cases hj
        have hadd : (⟨blk, off, none⟩ : Addr).add j = ⟨blk, off + j, none⟩ := by
          unfold Addr.add
          split
          · next h => subst h; rfl
          · rfl
        rw [hadd, hc j hjl, ← hj]
        simp [List.getD, hjl])
      (fun u hu => by simp only [List.mem_map] at hu; obtain ⟨y, _, rfl⟩ := hu; rfl) (by unfold maxLen; omega) hlen
    refine ⟨v', w', hr, ⟨TxR.of_row (by rw [List.length_append, List.map_append]; exact hp.row) fun k hk => ?_, hp.chg, hp.place⟩⟩
    rcases hp.place k hk with h1 | h1
    · exact (h.own k h1).1
    · omega
  · obtain rfl : zs = [] := List.length_eq_zero_iff.1 (by omega)
    obtain ⟨a3, c3, rfl⟩ := h.shape
    have hle : ids.length ≤ c3 := by
      obtain ⟨_, ⟨h1, h2⟩ | ⟨g, cap, cur, h1, _, _, h3, _⟩⟩ := h
      · omega
      · cases h1; exact h3
    have hs : Src Tryz.prog i0.size 29 (.slice a 0 c) 0 [] w := by
      cases a with
      | none => exact Src.ofNil w Tryz.underlying29 c
      | some ad => exact Src.ofSlice w Tryz.underlying29 ad 0 c [] (by simp) (fun j u hu => by simp at hu) (fun u hu => by cases hu)
    have hr := run_append_nothing (P := Tryz.prog) w 29 29 ty 9 i0 Tryz.underlying29 hi a3 ids.length c3 hle (.slice a 0 c) hs
    exact ⟨_, w, hr, ⟨by rw [List.append_nil]; exact h, Pk.Chg.refl _ _, fun k hk => .inl hk⟩⟩
section
variable {w : World} {o : Oper} {a : Act} {Q : Exit → Act → World → Prop}
theorem wp_pushT {K : Act → World → Prop} (s x : Operand) (ho : o.op = .call { callee := .builtin .append, args := #[s, x], argTypes := #[29, 29] }) (B : Nat) (v : Value) (ids zs : List ByteArray) (hs : a.eval s = v)
    (h : TxR B w v ids) (hB : B ≤ w.heap.size) (ad : Option Addr) (m c : Nat) (hx : a.eval x = .slice ad m c) (hm : zs.length = m) (hz : PartsAt w (.slice ad m c) zs) (hlen : (ids.length + m) * 16 ≤ 140737488355328)
    (k : ∀ v' w', PushedT B w v (ids ++ zs) v' w' → K (a.put o.dst v') w') : o.wp Tryz.prog a w K Q := by
  obtain ⟨v', w', hr, hp⟩ := push_texts B w o.type v ids zs h hB ad m c hm hz hlen
  unfold Oper.wp execOp
  simp only [ho, resolve, invoke, builtin, Sem.run_bind, Sem.run_pure, Result.andThen_ok, List.map_toArray, List.map_cons, List.map_nil, hs, hx, hr]
  exact k _ _ hp
theorem wpList_pushT {ops : Array Oper} {rest : List Oper} (hgd : o.guard = none) (s x : Operand) (ho : o.op = .call { callee := .builtin .append, args := #[s, x], argTypes := #[29, 29] }) (B : Nat) (v : Value) (ids zs : List ByteArray) (hs : a.eval s = v)
    (h : TxR B w v ids) (hB : B ≤ w.heap.size) (ad : Option Addr) (m c : Nat) (hx : a.eval x = .slice ad m c) (hm : zs.length = m) (hz : PartsAt w (.slice ad m c) zs) (hlen : (ids.length + m) * 16 ≤ 140737488355328)
    (k : ∀ v' w', PushedT B w v (ids ++ zs) v' w' → wpList Tryz.prog ops Q rest (a.put o.dst v') w') : wpList Tryz.prog ops Q (o :: rest) a w :=
  wpList_plain hgd fun _ hK => wp_pushT s x ho B v ids zs hs h hB ad m c hx hm hz hlen fun v' w' hp => hK _ _ (k v' w' hp)
end
theorem TxR.nil (B : Nat) (w : World) : TxR B w (.slice none 0 0) [] := World.ownsRow_nil _ _ _ _
theorem PushedT.below {B : Nat} {w w' : World} {v v' : Value} {ids zs : List ByteArray} (hp : PushedT B w v zs v' w') (h : TxR B w v ids) : Pk.Chg (fun i => B ≤ i) w w' := hp.chg.mono fun i _ e => (h.own i e).1
theorem PushedT.bel {w0 w w' : World} {v v' : Value} {ids zs : List ByteArray} (hp : PushedT w0.heap.size w v zs v' w') (hB : Below w0.heap.size w0 w) (h : TxR w0.heap.size w v ids) : Below w0.heap.size w0 w' := hB.trans ((hp.below h).below hB.size fun _ h => h)
theorem TxR.chg {S : Nat → Prop} {B : Nat} {w w' : World} {v : Value} {ids : List ByteArray} (h : TxR B w v ids) (hc : Pk.Chg S w w') (hn : ∀ k, v.ownBlock = some k → ¬ S k) : TxR B w' v ids := by
  obtain ⟨hx, h0 | ⟨g, cap, cur, rfl, b1, hg, b2⟩⟩ := h
  · exact ⟨hx, .inl h0⟩
  · exact ⟨hx, .inr ⟨g, cap, cur, rfl, b1, (hc.block g (Array.getElem?_eq_some_iff.1 hg).1 (hn g rfl)).trans hg, b2⟩⟩
end Go.Proofs.YtdjppgmaokcgiaaGreatDoor.Nt

namespace Go.Proofs.YtdjppgmaokcgiaaGreatDoor.Nt
open Go Go.RowKit

theorem ba_ext {a b : ByteArray} (h : a.data.toList = b.data.toList) : a = b := by
  cases a with | mk a => cases b with | mk b => exact congrArg ByteArray.mk (Array.toList_inj.1 h)
/-- Two ways to guess what a text is, looked at in the same way. -/
def chkC {β : Type} (good : β → Bool) (by_ : β → List UInt8) (s : List UInt8) (o : Option β) : Option β := match o with
  | none => none
  | some n => if good n = true ∧ by_ n = s then some n else none
theorem chkC_same {β : Type} (good : β → Bool) (by_ : β → List UInt8) (f g : List UInt8 → Option β) (hf : ∀ n, good n = true → f (by_ n) = some n) (hg : ∀ n, good n = true → g (by_ n) = some n) (s : List UInt8) : chkC good by_ s (f s) = chkC good by_ s (g s) := by
  have one : ∀ (f g : List UInt8 → Option β), (∀ n, good n = true → f (by_ n) = some n) → (∀ n, good n = true → g (by_ n) = some n) → ∀ m, chkC good by_ s (f s) = some m → chkC good by_ s (g s) = some m := by
    intro f g hf hg m h
    cases hfs : f s with
    | none => rw [hfs] at h; cases h
    | some n =>
      rw [hfs] at h
      unfold chkC at h
      by_cases hc : good n = true ∧ by_ n = s
      · simp only [if_pos hc] at h
        have e := Option.some.inj h
        subst e
        have := hg n hc.1
        rw [hc.2] at this
        unfold chkC
        rw [this]
        simp only [if_pos hc]
      · simp only [if_neg hc] at h
        cases h
  cases h1 : chkC good by_ s (f s) with
  | some m => rw [one f g hf hg m h1]
  | none =>
    cases h2 : chkC good by_ s (g s) with
    | none => rfl
    | some m => rw [one g f hg hf m h2] at h1; cases h1
theorem chkC_some {β : Type} {good : β → Bool} {by_ : β → List UInt8} {s : List UInt8} {o : Option β} {n : β} (h : chkC good by_ s o = some n) : good n = true ∧ by_ n = s := by
  unfold chkC at h
  cases o with
  | none => cases h
  | some m =>
    by_cases hc : good m = true ∧ by_ m = s
    · simp only [if_pos hc] at h; cases h; exact hc
    · simp only [if_neg hc] at h; cases h
theorem chkC_good {β : Type} {good : β → Bool} {by_ : β → List UInt8} {f : List UInt8 → Option β} {n : β} (hf : f (by_ n) = some n) (h : good n = true) : chkC good by_ (by_ n) (f (by_ n)) = some n := by
  unfold chkC; rw [hf]; simp only [h, and_self, if_true]

/-! Digits. -/
def isD (c : UInt8) : Bool := decide (48 ≤ c) && decide (c ≤ 57)
def valD (l : List UInt8) : Nat := l.foldl (fun n c => 10 * n + (c.toNat - 48)) 0
theorem valD_snoc (l : List UInt8) (c : UInt8) : valD (l ++ [c]) = 10 * valD l + (c.toNat - 48) := by unfold valD; rw [List.foldl_append]; rfl
def valA (acc : Nat) (l : List UInt8) : Nat := l.foldl (fun n c => 10 * n + (c.toNat - 48)) acc
theorem valA_ge : ∀ (l : List UInt8) (acc : Nat), acc ≤ valA acc l
  | [], _ => Nat.le_refl _
  | c :: r, acc => by
    have := valA_ge r (10 * acc + (c.toNat - 48))
    show acc ≤ valA (10 * acc + (c.toNat - 48)) r
    omega
theorem isD_nat {c : UInt8} (h : isD c = true) : 48 ≤ c.toNat ∧ c.toNat ≤ 57 := by
  unfold isD at h
  simpa [UInt8.le_iff_toNat_le] using h
theorem isD_dec (c : UInt8) : isD c = decide (48 ≤ c.toNat ∧ c.toNat ≤ 57) := by
  unfold isD; rw [Bool.eq_iff_iff]; simp [UInt8.le_iff_toNat_le]
theorem dig_of (u : Nat) (h : u < 10) : isD (UInt8.ofNat (48 + u)) = true ∧ (UInt8.ofNat (48 + u)).toNat = 48 + u := by
  have : ∀ u : Fin 10, isD (UInt8.ofNat (48 + u.val)) = true ∧ (UInt8.ofNat (48 + u.val)).toNat = 48 + u.val := by decide
  exact this ⟨u, h⟩
theorem dec_dig (u : Nat) : (∀ c ∈ Lib.decDigits u, isD c = true) ∧ valD (Lib.decDigits u) = u ∧ Lib.decDigits u ≠ [] := by
  induction u using Nat.strongRecOn with
  | ind u ih =>
    by_cases h : u < 10
    · obtain ⟨h1, h2⟩ := dig_of u h
      rw [Lib.decDigits, dif_pos h]
      exact ⟨fun c hc => by rw [List.mem_singleton.1 hc]; exact h1, by show 10 * 0 + ((UInt8.ofNat (48 + u)).toNat - 48) = u; rw [h2]; omega, by simp⟩
    · obtain ⟨i1, i2, i4⟩ := ih (u / 10) (by omega)
      obtain ⟨h1, h2⟩ := dig_of (u % 10) (by omega)
      rw [Lib.decDigits, dif_neg h]
      refine ⟨fun c hc => ?_, by rw [valD_snoc, i2, h2]; omega, by simp⟩
      rcases List.mem_append.1 hc with hc | hc
      · exact i1 c hc
      · rw [List.mem_singleton.1 hc]; exact h1
theorem pu_dig : ∀ (l : List UInt8) (acc : Nat), (∀ c ∈ l, isD c = true) → valA acc l < 1844674407370955162 → Lib.parseUint10 acc l = .ok (valA acc l)
  | [], _, _, _ => rfl
  | c :: r, acc, hd, hv => by
    have hc := isD_nat (hd c (by simp))
    have hv' : valA (10 * acc + (c.toNat - 48)) r < 1844674407370955162 := hv
    have hg := valA_ge r (10 * acc + (c.toNat - 48))
    rw [Lib.parseUint10, if_pos hc, if_neg (by omega), if_neg (by omega), show acc * 10 + (c.toNat - 48) = 10 * acc + (c.toNat - 48) by omega, pu_dig r _ (fun x hx => hd x (by simp [hx])) hv']
    rfl
theorem atoi_dec (u : Nat) (hu : u ≤ 1099511627776) : Lib.atoiAll (Lib.decDigits u) = .ok (u : Int) := by
  obtain ⟨h1, h2, h4⟩ := dec_dig u
  have hp : Lib.parseMag (Lib.decDigits u) = .ok u := by
    unfold Lib.parseMag
    rw [if_neg h4, pu_dig _ 0 h1 (by show valD _ < _; rw [h2]; omega)]
    show Lib.NumEnd.ok (valD _) = _
    rw [h2]
  cases hd : Lib.decDigits u with
  | nil => exact absurd hd h4
  | cons c r =>
    have hc := isD_nat (h1 c (by rw [hd]; simp))
    rw [Lib.atoiAll_plain c r (by omega) (by omega), ← hd, hp]
    show (if 9223372036854775808 ≤ u then Lib.NumEnd.range else Lib.NumEnd.ok (u : Int)) = _
    rw [if_neg (by omega)]
def numI (l : List UInt8) : Int := match Lib.atoiAll l with
  | .ok v => v
  | _ => -1
theorem numI_dec (u : Nat) (hu : u ≤ 1024) : numI (Lib.decDigits u) = (u : Int) := by unfold numI; rw [atoi_dec u (by omega)]
/-- The document's size: digits, no more than it needs to look at. -/
def szL (acc : Nat) : List UInt8 → Option Nat
  | [] => some acc
  | c :: r => if isD c = true ∧ acc ≤ 1024 then szL (10 * acc + (c.toNat - 48)) r else none
theorem szL_dig : ∀ (l : List UInt8) (acc : Nat), (∀ c ∈ l, isD c = true) → valA acc l ≤ 1024 → szL acc l = some (valA acc l)
  | [], _, _, _ => rfl
  | c :: r, acc, hd, hv => by
    have hv' : valA (10 * acc + (c.toNat - 48)) r ≤ 1024 := hv
    have hg := valA_ge r (10 * acc + (c.toNat - 48))
    rw [szL, if_pos ⟨hd c (by simp), by omega⟩, szL_dig r _ (fun x hx => hd x (by simp [hx])) hv']
    rfl
theorem szL_snoc : ∀ (l : List UInt8) (acc : Nat) (c : UInt8), szL acc (l ++ [c]) = (szL acc l).bind fun n => if isD c = true ∧ n ≤ 1024 then some (10 * n + (c.toNat - 48)) else none
  | [], acc, c => by simp [szL]
  | x :: r, acc, c => by
    rw [List.cons_append, szL, szL]
    by_cases h : isD x = true ∧ acc ≤ 1024
    · rw [if_pos h, if_pos h, szL_snoc r]
    · rw [if_neg h, if_neg h]; rfl
theorem szL_app : ∀ (l : List UInt8) (acc : Nat) (r : List UInt8), szL acc l = none → szL acc (l ++ r) = none
  | [], _, _, h => by cases h
  | x :: l, acc, r, h => by
    rw [List.cons_append, szL]
    rw [szL] at h
    by_cases hc : isD x = true ∧ acc ≤ 1024
    · rw [if_pos hc] at h ⊢; exact szL_app l _ r h
    · rw [if_neg hc]
theorem szL_le : ∀ (l : List UInt8) (acc : Nat), acc ≤ 10249 → ∀ n, szL acc l = some n → n ≤ 10249
  | [], acc, h, n, e => by cases e; exact h
  | c :: r, acc, _, n, e => by
    rw [szL] at e
    by_cases hc : isD c = true ∧ acc ≤ 1024
    · rw [if_pos hc] at e
      have := isD_nat hc.1
      exact szL_le r _ (by omega) n e
    · rw [if_neg hc] at e; cases e
def szI (l : List UInt8) : Int := match szL 0 l with
  | none => -1
  | some n => if Lib.decDigits n = l then (n : Int) else -1
theorem szI_dec (u : Nat) (hu : u ≤ 1024) : szI (Lib.decDigits u) = (u : Int) := by
  obtain ⟨h1, h2, _⟩ := dec_dig u
  unfold szI
  rw [szL_dig _ 0 h1 (by show valD _ ≤ _; omega), show valA 0 (Lib.decDigits u) = u from h2]
  simp

/-! Lines. -/
def stp (st : List (List UInt8) × List UInt8) (c : UInt8) : List (List UInt8) × List UInt8 := if c = 10 then (st.1 ++ [st.2], []) else (st.1, st.2 ++ [c])
def lnF (st : List (List UInt8) × List UInt8) (l : List UInt8) : List (List UInt8) × List UInt8 := l.foldl stp st
/-- The lines of a text, and what stands behind the last one. -/
def lnL (l : List UInt8) : List (List UInt8) × List UInt8 := lnF ([], []) l
def no10 (l : List UInt8) : Prop := ∀ x ∈ l, x ≠ 10
def jn (ls : List (List UInt8)) : List UInt8 := ls.flatMap (· ++ [10])
theorem jn_cons (a : List UInt8) (ls : List (List UInt8)) : jn (a :: ls) = a ++ 10 :: jn ls := by simp [jn]
theorem jn_app (a b : List (List UInt8)) : jn (a ++ b) = jn a ++ jn b := by simp [jn]
theorem lnF_app (st : List (List UInt8) × List UInt8) (a b : List UInt8) : lnF st (a ++ b) = lnF (lnF st a) b := List.foldl_append
theorem lnF_no : ∀ (a : List UInt8) (st : List (List UInt8) × List UInt8), no10 a → lnF st a = (st.1, st.2 ++ a)
  | [], st, _ => by simp [lnF]
  | x :: a, st, h => by
    have hx : x ≠ 10 := h x (by simp)
    show lnF (stp st x) a = _
    rw [lnF_no a _ fun y hy => h y (by simp [hy])]
    unfold stp
    rw [if_neg hx]
    simp
theorem lnF_line (ls : List (List UInt8)) (a r : List UInt8) (h : no10 a) : lnF (ls, []) (a ++ 10 :: r) = lnF (ls ++ [a], []) r := by
  rw [lnF_app, lnF_no a _ h]
  show lnF (stp (ls, [] ++ a) 10) r = _
  unfold stp
  rw [if_pos rfl]
  simp
theorem lnF_lines : ∀ (ls l0 : List (List UInt8)) (r : List UInt8), (∀ a ∈ ls, no10 a) → lnF (l0, []) (jn ls ++ r) = lnF (l0 ++ ls, []) r
  | [], l0, r, _ => by simp [jn]
  | a :: ls, l0, r, h => by
    rw [jn_cons, List.append_assoc, List.cons_append, lnF_line l0 a _ (h a (by simp)), lnF_lines ls _ r fun b hb => h b (by simp [hb])]
    simp
theorem lnL_jn (ls : List (List UInt8)) (h : ∀ a ∈ ls, no10 a) : lnL (jn ls) = (ls, []) := by
  have := lnF_lines ls [] [] h
  rw [List.append_nil] at this
  unfold lnL; rw [this]; simp [lnF]
theorem lnF_join : ∀ (l : List UInt8) (st : List (List UInt8) × List UInt8), jn (lnF st l).1 ++ (lnF st l).2 = jn st.1 ++ st.2 ++ l
  | [], st => by simp [lnF]
  | x :: l, st => by
    show jn (lnF (stp st x) l).1 ++ (lnF (stp st x) l).2 = _
    rw [lnF_join l]
    unfold stp
    by_cases hx : x = 10
    · rw [if_pos hx, hx]; simp [jn]
    · rw [if_neg hx]; simp
theorem lnF_clean : ∀ (l : List UInt8) (st : List (List UInt8) × List UInt8), (∀ a ∈ st.1, no10 a) → no10 st.2 → (∀ a ∈ (lnF st l).1, no10 a) ∧ no10 (lnF st l).2
  | [], st, h1, h2 => ⟨h1, h2⟩
  | x :: l, st, h1, h2 => by
    refine lnF_clean l (stp st x) ?_ ?_
    · unfold stp
      by_cases hx : x = 10
      · rw [if_pos hx]
        intro a ha
        rcases List.mem_append.1 ha with h | h
        · exact h1 a h
        · rw [List.mem_singleton.1 h]; exact h2
      · rw [if_neg hx]; exact h1
    · unfold stp
      by_cases hx : x = 10
      · rw [if_pos hx]; intro y hy; cases hy
      · rw [if_neg hx]
        intro y hy
        rcases List.mem_append.1 hy with h | h
        · exact h2 y h
        · rw [List.mem_singleton.1 h]; exact hx
theorem lnL_clean (l : List UInt8) : (∀ a ∈ (lnL l).1, no10 a) ∧ no10 (lnL l).2 := lnF_clean l _ (fun a h => by cases h) fun a h => by cases h
theorem lnL_join (l : List UInt8) : jn (lnL l).1 ++ (lnL l).2 = l := by unfold lnL; rw [lnF_join]; simp [jn]
theorem lnF_stays : ∀ (l : List UInt8) (st : List (List UInt8) × List UInt8) (a : List UInt8), a ∈ st.1 → a ∈ (lnF st l).1
  | [], _, _, h => h
  | x :: l, st, a, h => by
    refine lnF_stays l (stp st x) a ?_
    unfold stp
    by_cases hx : x = 10
    · rw [if_pos hx]; exact List.mem_append.2 (.inl h)
    · rw [if_neg hx]; exact h

/-! Good texts. -/
def nl : List UInt8 := [10]
def nl2 : List UInt8 := [10, 10]
def gT (t : List UInt8) : Bool := Lib.hasSuffix t nl && !Lib.hasPrefix t nl && !Lib.contains t nl2
def gTd (t : List UInt8) : Bool := (lnL t).2.isEmpty && (lnL t).1.all (fun a => !a.isEmpty) && !(lnL t).1.isEmpty
theorem gTd_iff (t : List UInt8) : gTd t = true ↔ ∃ ls, ls ≠ [] ∧ (∀ a ∈ ls, a ≠ [] ∧ no10 a) ∧ t = jn ls := by
  constructor
  · intro h
    unfold gTd at h
    simp only [Bool.and_eq_true, List.isEmpty_iff, List.all_eq_true, Bool.not_eq_true', List.isEmpty_eq_false_iff] at h
    obtain ⟨⟨h1, h2⟩, h3⟩ := h
    have hj := lnL_join t
    rw [h1, List.append_nil] at hj
    exact ⟨_, h3, fun a ha => ⟨h2 a ha, (lnL_clean t).1 a ha⟩, hj.symm⟩
  · rintro ⟨ls, h1, h2, rfl⟩
    unfold gTd
    rw [lnL_jn ls fun a ha => (h2 a ha).2]
    simp only [Bool.and_eq_true, List.isEmpty_iff, List.all_eq_true, Bool.not_eq_true', List.isEmpty_eq_false_iff, true_and]
    exact ⟨fun a ha => (h2 a ha).1, h1⟩
theorem contains_iff (s sub : List UInt8) : Lib.contains s sub = true ↔ ∃ a b, s = a ++ sub ++ b := by
  unfold Lib.contains
  rw [decide_eq_true_eq]
  rcases Lib.index_spec s sub with ⟨h1, h2⟩ | ⟨i, h1, h2, h3, _⟩
  · rw [h1]
    refine ⟨fun h => by omega, fun ⟨a, b, e⟩ => ?_⟩
    have := h2 a.length (by rw [e]; simp)
    unfold Lib.occAt at this
    rw [e, List.append_assoc, List.drop_left' rfl] at this
    have hp : sub.isPrefixOf (sub ++ b) = true := by simp [List.isPrefixOf_iff_prefix]
    rw [hp] at this; cases this
  · rw [h1]
    refine ⟨fun _ => ?_, fun _ => by omega⟩
    unfold Lib.occAt at h3
    rw [List.isPrefixOf_iff_prefix] at h3
    obtain ⟨b, hb⟩ := h3
    exact ⟨s.take i, b, by rw [List.append_assoc, hb, List.take_append_drop]⟩
theorem no_empty (ls : List (List UInt8)) (h : ∀ a ∈ ls, a ≠ [] ∧ no10 a) : Lib.contains (jn ls) nl2 = false ∧ Lib.hasPrefix (jn ls) nl = false := by
  have hL := lnL_jn ls fun a ha => (h a ha).2
  constructor
  · rw [← Bool.not_eq_true, contains_iff]
    rintro ⟨a, b, e⟩
    have hin : ([] : List UInt8) ∈ (lnL (jn ls)).1 := by
      unfold lnL
      rw [e, show nl2 = 10 :: 10 :: [] from rfl, List.append_assoc, lnF_app]
      refine lnF_stays b _ [] ?_
      unfold stp
      simp
    rw [hL] at hin
    exact (h [] hin).1 rfl
  · rw [← Bool.not_eq_true]
    unfold Lib.hasPrefix nl
    rw [List.isPrefixOf_iff_prefix]
    rintro ⟨b, e⟩
    have hin : ([] : List UInt8) ∈ (lnL (jn ls)).1 := by
      unfold lnL
      rw [← e]
      refine lnF_stays b _ [] ?_
      unfold stp
      simp
    rw [hL] at hin
    exact (h [] hin).1 rfl
theorem gT_iff (t : List UInt8) : gT t = true ↔ ∃ ls, ls ≠ [] ∧ (∀ a ∈ ls, a ≠ [] ∧ no10 a) ∧ t = jn ls := by
  constructor
  · intro h
    unfold gT at h
    simp only [Bool.and_eq_true, Bool.not_eq_true'] at h
    obtain ⟨⟨h1, h2⟩, h3⟩ := h
    unfold Lib.hasSuffix at h1
    rw [List.isSuffixOf_iff_suffix] at h1
    obtain ⟨p, hp⟩ := h1
    have hj := lnL_join t
    have hc := lnL_clean t
    have h0 : (lnL t).2 = [] := by
      rcases List.eq_nil_or_concat (lnL t).2 with h | ⟨q, x, h⟩
      · exact h
      · rw [h, ← hp] at hj
        have e2 : (jn (lnL t).1 ++ q) ++ [x] = p ++ [10] := by
          have := hj
          rw [← hp]
          simpa [nl] using this
        have := List.append_inj_right' e2 rfl
        simp at this
        exact absurd this (hc.2 x (by rw [h]; simp))
    rw [h0, List.append_nil] at hj
    refine ⟨(lnL t).1, fun e => ?_, fun a ha => ⟨fun e => ?_, hc.1 a ha⟩, hj.symm⟩
    · rw [e] at hj
      rw [← hj] at hp
      simp [jn, nl] at hp
    · subst e
      obtain ⟨u, v, huv⟩ := List.append_of_mem ha
      rw [huv] at hj
      rcases List.eq_nil_or_concat u with h | ⟨u', x, h⟩
      · rw [h] at hj
        have : Lib.hasPrefix t nl = true := by
          unfold Lib.hasPrefix nl
          rw [List.isPrefixOf_iff_prefix, ← hj]
          exact ⟨jn v, by simp [jn]⟩
        rw [this] at h2; cases h2
      · have : Lib.contains t nl2 = true := (contains_iff _ _).2 ⟨jn u' ++ x, jn v, by rw [← hj, h]; simp [jn, nl2]⟩
        rw [this] at h3; cases h3
  · rintro ⟨ls, h1, h2, rfl⟩
    obtain ⟨n1, n2⟩ := no_empty ls h2
    unfold gT
    rw [n1, n2]
    simp only [Bool.not_false, Bool.and_true]
    unfold Lib.hasSuffix nl
    rw [List.isSuffixOf_iff_suffix]
    rcases List.eq_nil_or_concat ls with h | ⟨u, x, h⟩
    · exact absurd h h1
    · exact ⟨jn u ++ x, by rw [h]; simp [jn]⟩
theorem gT_eq (t : List UInt8) : gT t = gTd t := by rw [Bool.eq_iff_iff, gT_iff, gTd_iff]

/-! Notes. -/
theorem hex_chars (l : List UInt8) : ∀ x ∈ hexL l, x ≠ 10 ∧ x ≠ 32 := by
  intro x hx
  have hd : ∀ n : Fin 16, digit n.val ≠ 10 ∧ digit n.val ≠ 32 := by decide +kernel
  unfold hexL at hx
  obtain ⟨y, _, hy⟩ := List.mem_flatMap.1 hx
  have := y.toNat_lt
  unfold hexB at hy
  rcases List.mem_cons.1 hy with h | h
  · rw [h]; exact hd ⟨y.toNat / 16, by omega⟩
  · rw [List.mem_singleton.1 h]; exact hd ⟨y.toNat % 16, by omega⟩
def lSig : List UInt8 := [115, 105, 103, 32]
def sLn (x : ByteArray × ByteArray) : List UInt8 := lSig ++ (hexL x.1.data.toList ++ 32 :: hexL x.2.data.toList)
theorem sLn_no10 (x : ByteArray × ByteArray) : no10 (sLn x) := by
  intro y hy
  unfold sLn at hy
  rcases List.mem_append.1 hy with h | h
  · unfold lSig at h
    simp at h
    rcases h with h | h | h | h <;> rw [h] <;> decide
  · rcases List.mem_append.1 h with h | h
    · exact (hex_chars _ y h).1
    · rcases List.mem_cons.1 h with h | h
      · rw [h]; decide
      · exact (hex_chars _ y h).1
def sgL (sg : List (ByteArray × ByteArray)) : List UInt8 := jn (sg.map sLn)
def byN (n : ByteArray × List (ByteArray × ByteArray)) : List UInt8 := n.1.data.toList ++ 10 :: sgL n.2
def gS (x : ByteArray × ByteArray) : Bool := decide (x.1.size = 32) && decide (1 ≤ x.2.size) && decide (x.2.size ≤ 1024)
def gN (n : ByteArray × List (ByteArray × ByteArray)) : Bool := gT n.1.data.toList && decide (n.2.length ≤ 16) && n.2.all gS
theorem index_at : ∀ (a : List UInt8) (c : UInt8) (p r : List UInt8), (∀ x ∈ a, x ≠ c) → Lib.index (a ++ (c :: p ++ r)) (c :: p) = (a.length : Int)
  | [], c, p, r, _ => by
    show Lib.index (c :: (p ++ r)) (c :: p) = 0
    have : (c :: p).isPrefixOf (c :: (p ++ r)) = true := by simp [List.isPrefixOf_iff_prefix]
    unfold Lib.index
    rw [if_pos this]
  | x :: a, c, p, r, h => by
    have hx := h x (by simp)
    have ih := index_at a c p r fun y hy => h y (by simp [hy])
    have : (c :: p).isPrefixOf (x :: (a ++ (c :: p ++ r))) = false := by simp [List.isPrefixOf, Ne.symm hx]
    rw [List.cons_append]
    unfold Lib.index
    rw [this, ih]
    have h1 : ((a.length : Int) == -1) = false := by
      cases h : ((a.length : Int) == -1)
      · rfl
      · have := eq_of_beq h; omega
    rw [h1]
    simp
theorem cut_at (a : List UInt8) (c : UInt8) (r : List UInt8) (h : ∀ x ∈ a, x ≠ c) : Lib.cut (a ++ c :: r) [c] = (a, r, true) := by
  unfold Lib.cut
  have hi := index_at a c [] r h
  simp only [List.cons_append, List.nil_append] at hi
  rw [hi, if_pos (by omega), Int.toNat_natCast]
  simp [List.drop_append]
/-- What the program takes a line for. -/
def rdS (line : List UInt8) : ByteArray × ByteArray := (unT (Lib.cut (Lib.trimPrefix line lSig) [32]).1, unT (Lib.cut (Lib.trimPrefix line lSig) [32]).2.1)
theorem rdS_ln (x : ByteArray × ByteArray) : rdS (sLn x) = x := by
  have h1 : Lib.trimPrefix (sLn x) lSig = hexL x.1.data.toList ++ 32 :: hexL x.2.data.toList := by
    unfold Lib.trimPrefix Lib.hasPrefix sLn
    rw [if_pos (by simp [List.isPrefixOf_iff_prefix]), List.drop_left' rfl]
  unfold rdS
  rw [h1, cut_at _ 32 _ fun y hy => (hex_chars _ y hy).2, unT_hex, unT_hex]
def rdsL : Nat → List UInt8 → List (ByteArray × ByteArray)
  | 0, _ => []
  | n + 1, rest => if rest = [] then [] else rdS (Lib.cut rest nl).1 :: rdsL n (Lib.cut rest nl).2.1
theorem rdsL_back : ∀ (sg : List (ByteArray × ByteArray)) (n : Nat), sg.length ≤ n → rdsL n (sgL sg) = sg
  | [], 0, _ => rfl
  | [], n + 1, _ => rfl
  | x :: sg, 0, h => by simp at h
  | x :: sg, n + 1, h => by
    have e : sgL (x :: sg) = sLn x ++ 10 :: sgL sg := by unfold sgL; rw [List.map_cons, jn_cons]
    rw [e, rdsL, if_neg (by simp), show nl = [10] from rfl, cut_at _ 10 _ (sLn_no10 x), rdS_ln, rdsL_back sg n (by simpa using h)]
/-- What the program takes a text for. -/
def candP (s : List UInt8) : Option (ByteArray × List (ByteArray × ByteArray)) :=
  if Lib.index s nl2 < 0 then none else some (⟨(s.take ((Lib.index s nl2).toNat + 1)).toArray⟩, rdsL 17 (s.drop ((Lib.index s nl2).toNat + 2)))
theorem index_note (t r : List UInt8) (h : gT t = true) : Lib.index (t ++ 10 :: r) nl2 = ((t.length - 1 : Nat) : Int) ∧ 1 ≤ t.length := by
  obtain ⟨ls, h1, h2, e⟩ := (gT_iff t).1 h
  have hn := (no_empty ls h2).1
  rw [← e] at hn
  rcases List.eq_nil_or_concat ls with h3 | ⟨u, x, h3⟩
  · exact absurd h3 h1
  have e2 : t = (jn u ++ x) ++ [10] := by rw [e, h3]; simp [jn]
  have hl : t.length = (jn u ++ x).length + 1 := by rw [e2]; simp; omega
  refine ⟨?_, by omega⟩
  refine Lib.index_first (by simp; omega) ?_ fun j hj => ?_
  · unfold Lib.occAt
    rw [List.isPrefixOf_iff_prefix, show t.length - 1 = (jn u ++ x).length by omega, e2, List.append_assoc, List.append_assoc, ← List.append_assoc, List.drop_left' rfl]
    exact ⟨r, by simp [nl2]⟩
  · rw [← Bool.not_eq_true]
    unfold Lib.occAt
    rw [List.isPrefixOf_iff_prefix]
    rintro ⟨b, hb⟩
    rw [List.drop_append_of_le_length (by omega)] at hb
    have hc : Lib.contains t nl2 = true := by
      refine (contains_iff _ _).2 ?_
      have hd : 2 ≤ (t.drop j).length := by rw [List.length_drop]; omega
      match hq : t.drop j, hd with
      | p :: q :: z, _ =>
        rw [hq] at hb
        simp only [nl2, List.cons_append, List.nil_append, List.cons.injEq] at hb
        exact ⟨t.take j, z, by rw [show t.take j ++ nl2 ++ z = t.take j ++ (p :: q :: z) by rw [← hb.1, ← hb.2.1]; simp [nl2], ← hq, List.take_append_drop]⟩
    rw [hc] at hn; cases hn
theorem candP_by (n : ByteArray × List (ByteArray × ByteArray)) (h : gN n = true) : candP (byN n) = some n := by
  unfold gN at h
  simp only [Bool.and_eq_true, decide_eq_true_eq] at h
  obtain ⟨⟨h1, h2⟩, _⟩ := h
  obtain ⟨hi, hl⟩ := index_note n.1.data.toList (sgL n.2) h1
  unfold candP byN
  rw [hi, if_neg (by omega), Int.toNat_natCast, show n.1.data.toList.length - 1 + 1 = n.1.data.toList.length by omega, show n.1.data.toList.length - 1 + 2 = n.1.data.toList.length + 1 by omega, List.take_left' rfl,
    List.drop_append, List.drop_of_length_le (by omega), show n.1.data.toList.length + 1 - n.1.data.toList.length = 1 by omega, List.nil_append, List.drop_succ_cons, List.drop_zero, rdsL_back n.2 17 (by omega)]
/-- What the document takes a line for. -/
def rdD (x : List UInt8) : Option (ByteArray × ByteArray) :=
  if 69 ≤ x.length ∧ x.take 4 = lSig ∧ x.getD 68 0 = 32 ∧ unB ((x.drop 4).take 64) = true ∧ unB (x.drop 69) = true then some (unT ((x.drop 4).take 64), unT (x.drop 69)) else none
def rdsD : List (List UInt8) → Option (List (ByteArray × ByteArray))
  | [] => some []
  | x :: r => (rdD x).bind fun y => (rdsD r).map (y :: ·)
theorem rdsD_snoc : ∀ (a : List (List UInt8)) (x : List UInt8), rdsD (a ++ [x]) = (rdsD a).bind fun l => (rdD x).map fun y => l ++ [y]
  | [], x => by simp [rdsD]; cases rdD x <;> rfl
  | z :: a, x => by
    rw [List.cons_append, rdsD, rdsD, rdsD_snoc a x]
    cases rdD z with
    | none => rfl
    | some y => cases rdsD a with
      | none => rfl
      | some l => cases rdD x <;> rfl
theorem rdsD_app : ∀ (a b : List (List UInt8)), rdsD a = none → rdsD (a ++ b) = none
  | [], _, h => by cases h
  | z :: a, b, h => by
    rw [List.cons_append, rdsD]
    rw [rdsD] at h
    cases hz : rdD z with
    | none => rfl
    | some y =>
      rw [hz] at h
      cases ha : rdsD a with
      | none => rw [rdsD_app a b ha]; rfl
      | some l => rw [ha] at h; cases h
theorem rdD_ln (x : ByteArray × ByteArray) (h : x.1.size = 32) : rdD (sLn x) = some x := by
  have hl : (hexL x.1.data.toList).length = 64 := by rw [hexL_length, data_len]; omega
  have e4 : (sLn x).drop 4 = hexL x.1.data.toList ++ 32 :: hexL x.2.data.toList := List.drop_left' rfl
  have e5 : ((sLn x).drop 4).take 64 = hexL x.1.data.toList := by rw [e4, List.take_left' hl]
  have e6 : (sLn x).drop 69 = hexL x.2.data.toList := by
    rw [show (69 : Nat) = 4 + 65 from rfl, ← List.drop_drop, e4, List.drop_append, List.drop_of_length_le (by omega), hl]; rfl
  have e7 : (sLn x).getD 68 0 = 32 := by
    have : (sLn x)[68]? = ((sLn x).drop 4)[64]? := by rw [List.getElem?_drop]
    rw [List.getD, this, e4, List.getElem?_append_right (by omega), hl]; rfl
  unfold rdD
  rw [e5, e6, e7, if_pos ⟨by unfold sLn lSig; simp; omega, List.take_left' rfl, rfl, unB_hex _, unB_hex _⟩, unT_hex, unT_hex]
theorem rdsD_back : ∀ (sg : List (ByteArray × ByteArray)), (∀ x ∈ sg, x.1.size = 32) → rdsD (sg.map sLn) = some sg
  | [], _ => rfl
  | x :: sg, h => by
    rw [List.map_cons, rdsD, rdD_ln x (h x (by simp)), Option.bind_some, rdsD_back sg fun y hy => h y (by simp [hy])]; rfl
/-- How many lines stand ahead of the first empty one. -/
def kOf : List (List UInt8) → Nat
  | [] => 0
  | a :: l => if a = [] then 0 else kOf l + 1
theorem kOf_le : ∀ l, kOf l ≤ l.length
  | [] => Nat.le_refl _
  | a :: l => by rw [kOf]; have := kOf_le l; split <;> simp <;> omega
theorem kOf_at : ∀ (l : List (List UInt8)) (i : Nat), i ≤ kOf l → ((i < l.length ∧ l.getD i [] ≠ []) ↔ i < kOf l)
  | [], i, h => by simp [kOf]
  | a :: l, i, h => by
    rw [kOf] at h ⊢
    by_cases ha : a = []
    · rw [if_pos ha] at h ⊢
      obtain rfl : i = 0 := by omega
      simp [ha]
    · rw [if_neg ha] at h ⊢
      cases i with
      | zero => simp [ha]
      | succ i =>
        have := kOf_at l i (by omega)
        simp only [List.length_cons, Nat.succ_lt_succ_iff, List.getD_cons_succ]
        exact this
theorem kOf_app : ∀ (a : List (List UInt8)) (b : List (List UInt8)), (∀ x ∈ a, x ≠ []) → kOf (a ++ [] :: b) = a.length
  | [], b, _ => by simp [kOf]
  | x :: a, b, h => by
    rw [List.cons_append, kOf, if_neg (h x (by simp)), kOf_app a b fun y hy => h y (by simp [hy])]; rfl
/-- What the document takes a text for. -/
def candD (s : List UInt8) : Option (ByteArray × List (ByteArray × ByteArray)) :=
  if (lnL s).2 = [] then (rdsD (((lnL s).1.drop (kOf (lnL s).1 + 1)).take 19)).map fun sg => (⟨(jn ((lnL s).1.take (kOf (lnL s).1))).toArray⟩, sg) else none
theorem candD_by (n : ByteArray × List (ByteArray × ByteArray)) (h : gN n = true) : candD (byN n) = some n := by
  unfold gN at h
  simp only [Bool.and_eq_true, decide_eq_true_eq, List.all_eq_true] at h
  obtain ⟨⟨h1, h2⟩, h3⟩ := h
  obtain ⟨ls, g1, g2, g3⟩ := (gT_iff _).1 h1
  have e : byN n = jn (ls ++ [] :: n.2.map sLn) := by unfold byN sgL; rw [g3, jn_app, jn_cons]; rfl
  have hL : lnL (byN n) = (ls ++ [] :: n.2.map sLn, []) := by
    rw [e]
    refine lnL_jn _ fun a ha => ?_
    rcases List.mem_append.1 ha with h | h
    · exact (g2 a h).2
    · rcases List.mem_cons.1 h with h | h
      · rw [h]; intro y hy; cases hy
      · obtain ⟨x, _, rfl⟩ := List.mem_map.1 h
        exact sLn_no10 x
  unfold candD
  rw [hL]
  simp only [if_true]
  rw [kOf_app ls _ fun x hx => (g2 x hx).1, List.take_left' rfl, ← g3, List.drop_append, List.drop_of_length_le (by omega), show ls.length + 1 - ls.length = 1 by omega, List.nil_append, List.drop_succ_cons, List.drop_zero,
    List.take_of_length_le (by rw [List.length_map]; omega), rdsD_back n.2 fun x hx => by
      have := h3 x hx
      unfold gS at this
      simp only [Bool.and_eq_true, decide_eq_true_eq] at this
      exact this.1.1]
  rfl
/-- The note whose bytes it is. -/
def rdN (s : List UInt8) : Option (ByteArray × List (ByteArray × ByteArray)) := chkC gN byN s (candP s)
theorem rdN_D (s : List UInt8) : rdN s = chkC gN byN s (candD s) := chkC_same gN byN candP candD candP_by candD_by s
theorem rdN_by {n : ByteArray × List (ByteArray × ByteArray)} (h : gN n = true) : rdN (byN n) = some n := chkC_good (candP_by n h) h
theorem rdN_some {s : List UInt8} {n : ByteArray × List (ByteArray × ByteArray)} (h : rdN s = some n) : gN n = true ∧ byN n = s := chkC_some h
/-- No note's bytes end with anything else than a line's end. -/
theorem rdN_tail (s : List UInt8) (x : UInt8) (h : x ≠ 10) : rdN (s ++ [x]) = none := by
  cases hr : rdN (s ++ [x]) with
  | none => rfl
  | some n =>
    obtain ⟨_, h2⟩ := rdN_some hr
    unfold byN sgL at h2
    rcases List.eq_nil_or_concat (n.2.map sLn) with h3 | ⟨u, y, h3⟩
    · rw [h3] at h2
      have := List.append_inj_right' (show n.1.data.toList ++ [10] = s ++ [x] from h2) rfl
      simp at this
      exact absurd this.symm h
    · rw [h3] at h2
      have e : (n.1.data.toList ++ 10 :: (jn u ++ y)) ++ [10] = s ++ [x] := by rw [← h2]; simp [jn]
      have := List.append_inj_right' e rfl
      simp at this
      exact absurd this.symm h

/-! Checkpoints. -/
def gO (o : List UInt8) : Bool := o.all (fun c => decide (33 ≤ c.toNat ∧ c.toNat ≤ 126)) && decide (1 ≤ o.length ∧ o.length ≤ 64)
structure Ck where
  o : ByteArray
  n : Int
  r : ByteArray
def gC (c : Ck) : Bool := gO c.o.data.toList && decide (0 ≤ c.n) && decide (c.n ≤ 1024) && decide (c.r.size = 32)
def lTitle : List UInt8 := [111, 115, 116, 108, 101, 114, 32, 99, 104, 101, 99, 107, 112, 111, 105, 110, 116]
def ckL (c : Ck) : List UInt8 := jn [lTitle, c.o.data.toList, Lib.itoa c.n, hexL c.r.data.toList]
theorem gC_iff {c : Ck} : gC c = true ↔ gO c.o.data.toList = true ∧ 0 ≤ c.n ∧ c.n ≤ 1024 ∧ c.r.size = 32 := by
  unfold gC; simp [and_assoc]
theorem gO_no10 {l : List UInt8} (h : gO l = true) : no10 l := by
  unfold gO at h
  simp only [Bool.and_eq_true, List.all_eq_true, decide_eq_true_eq] at h
  intro x hx e
  have := h.1 x hx
  rw [e] at this
  simp at this
theorem title_no10 : no10 lTitle := by unfold no10 lTitle; decide
theorem dec_no10 (u : Nat) : no10 (Lib.decDigits u) := fun x hx e => by
  have := isD_nat ((dec_dig u).1 x hx)
  rw [e] at this
  simp at this
theorem hex_no10 (l : List UInt8) : no10 (hexL l) := fun x hx => (hex_chars l x hx).1
theorem itoa_of {n : Int} (h : 0 ≤ n) : Lib.itoa n = Lib.decDigits n.toNat := by unfold Lib.itoa; rw [if_neg (by omega)]
/-- What the program takes a text for. -/
def ckP (s : List UInt8) : Option Ck :=
  let p := Lib.splitK nl 0 (min 5 (s.length + 1) - 1) s
  if p.length ≤ 4 then none else some ⟨⟨(p.getD 1 []).toArray⟩, numI (p.getD 2 []), unT (p.getD 3 [])⟩
/-- What the document takes it for. -/
def ckD (s : List UInt8) : Option Ck :=
  if (lnL s).2 = [] ∧ (lnL s).1.length = 4 ∧ unB ((lnL s).1.getD 3 []) = true then some ⟨⟨((lnL s).1.getD 1 []).toArray⟩, szI ((lnL s).1.getD 2 []), unT ((lnL s).1.getD 3 [])⟩ else none
theorem splitK_line (a r : List UInt8) (k : Nat) (h : no10 a) : Lib.splitK nl 0 (k + 1) (a ++ 10 :: r) = a :: Lib.splitK nl 0 k r := by
  have hi := index_at a 10 [] r h
  simp only [List.cons_append, List.nil_append] at hi
  have h1 : ((a.length : Int) == -1) = false := by
    cases h : ((a.length : Int) == -1)
    · rfl
    · have := eq_of_beq h; omega
  rw [Lib.splitK, show nl = [10] from rfl, hi, h1]
  simp [List.drop_append, List.drop_of_length_le]
theorem ckP_by (c : Ck) (h : gC c = true) : ckP (ckL c) = some c := by
  obtain ⟨h1, h2, h3, h4⟩ := gC_iff.1 h
  have hlen : 5 ≤ (ckL c).length := by unfold ckL lTitle; simp [jn]
  have hk : min 5 ((ckL c).length + 1) - 1 = 4 := by omega
  have hp : Lib.splitK nl 0 4 (ckL c) = [lTitle, c.o.data.toList, Lib.itoa c.n, hexL c.r.data.toList, []] := by
    unfold ckL
    rw [jn_cons, jn_cons, jn_cons, jn_cons, splitK_line _ _ 3 title_no10, splitK_line _ _ 2 (gO_no10 h1), splitK_line _ _ 1 (by rw [itoa_of h2]; exact dec_no10 _), splitK_line _ _ 0 (hex_no10 _)]
    rfl
  unfold ckP
  simp only [hk, hp]
  rw [if_neg (by simp)]
  simp only [List.getD_cons_succ, List.getD_cons_zero]
  rw [itoa_of h2, numI_dec _ (by omega), unT_hex, Int.toNat_of_nonneg h2]
theorem ckD_by (c : Ck) (h : gC c = true) : ckD (ckL c) = some c := by
  obtain ⟨h1, h2, h3, h4⟩ := gC_iff.1 h
  have hL : lnL (ckL c) = ([lTitle, c.o.data.toList, Lib.itoa c.n, hexL c.r.data.toList], []) := by
    unfold ckL
    refine lnL_jn _ fun a ha => ?_
    simp only [List.mem_cons, List.not_mem_nil, or_false] at ha
    rcases ha with rfl | rfl | rfl | rfl
    · exact title_no10
    · exact gO_no10 h1
    · rw [itoa_of h2]; exact dec_no10 _
    · exact hex_no10 _
  unfold ckD
  rw [hL]
  simp only [List.getD_cons_succ, List.getD_cons_zero]
  rw [if_pos ⟨trivial, rfl, unB_hex _⟩, itoa_of h2, szI_dec _ (by omega), unT_hex, Int.toNat_of_nonneg h2]
/-- The checkpoint whose text it is. -/
def pCk (s : List UInt8) : Option Ck := chkC gC ckL s (ckP s)
theorem pCk_D (s : List UInt8) : pCk s = chkC gC ckL s (ckD s) := chkC_same gC ckL ckP ckD ckP_by ckD_by s
theorem pCk_by {c : Ck} (h : gC c = true) : pCk (ckL c) = some c := chkC_good (ckP_by c h) h
theorem pCk_some {s : List UInt8} {c : Ck} (h : pCk s = some c) : gC c = true ∧ ckL c = s := chkC_some h

/-! One more signature. -/
def atI (id : ByteArray) : List (ByteArray × ByteArray) → Nat
  | [] => 0
  | x :: r => if x.1 = id then 0 else atI id r + 1
theorem atI_le (id : ByteArray) : ∀ sg, atI id sg ≤ sg.length
  | [] => Nat.le_refl _
  | x :: r => by rw [atI]; have := atI_le id r; split <;> simp <;> omega
theorem atI_at (id : ByteArray) : ∀ (sg : List (ByteArray × ByteArray)) (i : Nat), i ≤ atI id sg → ((i < sg.length ∧ (sg.getD i default).1 ≠ id) ↔ i < atI id sg)
  | [], i, h => by simp [atI]
  | x :: l, i, h => by
    rw [atI] at h ⊢
    by_cases ha : x.1 = id
    · rw [if_pos ha] at h ⊢
      obtain rfl : i = 0 := by omega
      simp [ha]
    · rw [if_neg ha] at h ⊢
      cases i with
      | zero => simp [ha]
      | succ i =>
        have := atI_at id l i (by omega)
        simp only [List.length_cons, Nat.succ_lt_succ_iff, List.getD_cons_succ]
        exact this
def addL (sg : List (ByteArray × ByteArray)) (x : ByteArray × ByteArray) : List (ByteArray × ByteArray) := if atI x.1 sg < sg.length then sg.set (atI x.1 sg) x else sg ++ [x]
def fmtN (n : ByteArray × List (ByteArray × ByteArray)) : ByteArray := if gN n = true then ⟨(byN n).toArray⟩ else ByteArray.empty
def fmtE (n : ByteArray × List (ByteArray × ByteArray)) : Int := if gN n = true then 0 else 1
end Go.Proofs.YtdjppgmaokcgiaaGreatDoor.Nt

namespace Go.Proofs.YtdjppgmaokcgiaaGreatDoor.Nt
open Go Go.RowKit

theorem ret_b {a b : Bool} (h : b = a) : Ending.returned (.bool a) = .returned (.bool b) := by rw [h]
theorem ret_s {a b : ByteArray} (h : b = a) : Ending.returned (.string a) = .returned (.string b) := by rw [h]
theorem ret_i {k : IntKind} {a b : Int} (h : b = a) : Ending.returned (.int k a) = .returned (.int k b) := by rw [h]
theorem gO_bad {s : ByteArray} {i : Nat} (h : i < s.size) (x : UInt8) (hx : s[i] = x) (hn : ¬ (33 ≤ x.toNat ∧ x.toNat ≤ 126)) : gO s.data.toList = false := by
  rw [← Bool.not_eq_true]
  intro hg
  unfold gO at hg
  simp only [Bool.and_eq_true, List.all_eq_true, decide_eq_true_eq] at hg
  exact hn (hg.1 x (by rw [← hx]; exact List.getElem_mem (l := s.data.toList) (by rw [data_len]; exact h)))
theorem gO_all {s : ByteArray} (h : ∀ j (hj : j < s.size), 33 ≤ s[j].toNat ∧ s[j].toNat ≤ 126) : gO s.data.toList = decide (1 ≤ s.size ∧ s.size ≤ 64) := by
  unfold gO
  rw [data_len]
  have : (s.data.toList.all fun c => decide (33 ≤ c.toNat ∧ c.toNat ≤ 126)) = true := by
    simp only [List.all_eq_true, decide_eq_true_eq]
    intro x hx
    obtain ⟨i, hi, rfl⟩ := List.getElem_of_mem hx
    exact h i (by rw [data_len] at hi; exact hi)
  rw [this, Bool.true_and]
def OkTo (s : ByteArray) (i : Nat) : Prop := ∀ j (hj : j < s.size), j < i → 33 ≤ s[j].toNat ∧ s[j].toNat ≤ 126
theorem OkTo.zero (s : ByteArray) : OkTo s 0 := fun _ _ h => absurd h (Nat.not_lt_zero _)
theorem OkTo.next {s : ByteArray} {i : Nat} (h : OkTo s i) (hi : i < s.size) (x : UInt8) (hx : s[i] = x) (h1 : 33 ≤ x.toNat ∧ x.toNat ≤ 126) : OkTo s (i + 1) := fun j hj hl => by
  by_cases hji : j < i
  · exact h j hj hji
  · obtain rfl : j = i := by omega
    rw [hx]; exact h1
set_option maxHeartbeats 800000 in
set_option maxRecDepth 100000 in
theorem origin_any (s : ByteArray) (w : World) (hs : s.size ≤ 140737488355328) :
    Calls Tryz.prog 53 #[.string s] w fun e w' => e = .returned (.bool (gO s.data.toList)) ∧ w = w' := by
  by_cases hlen : 1 ≤ s.size ∧ s.size ≤ 64
  · obtain ⟨h1, h2⟩ := hlen
    have hO := Box.mk (OkTo.zero s)
    have d1 : decide ((s.size : Int) < 1) = false := by simpa using (by omega : ¬ (s.size : Int) < 1)
    have d2 : decide (64 < (s.size : Int)) = false := by simpa using (by omega : ¬ 64 < (s.size : Int))
    go_enter Tryz.func53, Tryz.ntmps53
    go_wp2_with fail
    go_loop [14] (fun q => ∃ i : Nat, i ≤ s.size ∧ q = .int .i64 (i : Int) ∧ Box (OkTo s i)) (fun q => s.size - (intOf q).toNat)
    case atStart => exact ⟨0, by omega, rfl, hO⟩
    case round =>
      clear hO
      obtain ⟨i, hi, rfl, hO⟩ := hrel
      by_cases hlt : i < s.size
      · obtain ⟨x, hx⟩ : ∃ x, s[i] = x := ⟨_, rfl⟩
        have hxl := x.toNat_lt
        by_cases hk : 33 ≤ x.toNat ∧ x.toNat ≤ 126
        · have hN := Box.mk (hO.out.next hlt x hx hk)
          obtain ⟨k1, k2⟩ := hk
          clear hO
          go_wp2_with fail
          go_round
          case rel => exact ⟨i + 1, by omega, by go_num, hN⟩
          case measure => simp [intOf]; omega
        · have hN := Box.mk (gO_bad hlt x hx hk)
          clear hO
          by_cases k1 : 33 ≤ x.toNat
          · have k2 : 126 < x.toNat := by omega
            clear hk
            go_wp2_with fail
            go_ret
            exact ⟨ret_b hN.out, rfl⟩
          · clear hk
            go_wp2_with fail
            go_ret
            exact ⟨ret_b hN.out, rfl⟩
      · obtain rfl : i = s.size := by omega
        have hN := Box.mk (gO_all fun j hj => hO.out j hj hj)
        rw [decide_eq_true (⟨h1, h2⟩ : 1 ≤ s.size ∧ s.size ≤ 64)] at hN
        clear hO
        go_wp2_with fail
        go_ret
        exact ⟨ret_b hN.out, rfl⟩
  · have hN : gO s.data.toList = false := by
      rw [← Bool.not_eq_true]
      intro hg
      unfold gO at hg
      rw [data_len] at hg
      simp only [Bool.and_eq_true, decide_eq_true_eq] at hg
      exact hlen hg.2
    replace hN := Box.mk hN
    by_cases k1 : 1 ≤ s.size
    · have k2 : 64 < s.size := by omega
      clear hlen
      go_enter Tryz.func53, Tryz.ntmps53
      go_wp2_with fail
      go_ret
      exact ⟨ret_b hN.out, rfl⟩
    · clear hlen
      go_enter Tryz.func53, Tryz.ntmps53
      go_wp2_with fail
      go_ret
      exact ⟨ret_b hN.out, rfl⟩
set_option maxHeartbeats 800000 in
set_option maxRecDepth 100000 in
theorem dorigin_any (s : ByteArray) (w : World) (hs : s.size ≤ 140737488355328) :
    Calls Tryz.prog 16 #[.string s] w fun e w' => e = .returned (.bool (gO s.data.toList)) ∧ w = w' := by
  have hO := Box.mk (OkTo.zero s)
  go_enter Tryz.func16, Tryz.ntmps16
  go_wp2_with fail
  go_loop [3] (fun q => ∃ i : Nat, i ≤ s.size ∧ q = .int .i64 (i : Int) ∧ Box (OkTo s i)) (fun q => s.size - (intOf q).toNat)
  case atStart => exact ⟨0, by omega, rfl, hO⟩
  case round =>
    clear hO
    obtain ⟨i, hi, rfl, hO⟩ := hrel
    by_cases hlt : i < s.size
    · obtain ⟨x, hx⟩ : ∃ x, s[i] = x := ⟨_, rfl⟩
      have hxl := x.toNat_lt
      by_cases hk : 33 ≤ x.toNat ∧ x.toNat ≤ 126
      · have hN := Box.mk (hO.out.next hlt x hx hk)
        obtain ⟨k1, k2⟩ := hk
        clear hO
        go_wp2_with fail
        go_round
        case rel => exact ⟨i + 1, by omega, by go_num, hN⟩
        case measure => simp [intOf]; omega
      · have hN := Box.mk (gO_bad hlt x hx hk)
        clear hO
        by_cases k1 : 33 ≤ x.toNat
        · have k2 : 126 < x.toNat := by omega
          clear hk
          go_wp2_with fail
          go_ret
          exact ⟨ret_b hN.out, rfl⟩
        · clear hk
          go_wp2_with fail
          go_ret
          exact ⟨ret_b hN.out, rfl⟩
    · obtain rfl : i = s.size := by omega
      have hN := Box.mk (gO_all fun j hj => hO.out j hj hj)
      clear hO
      by_cases k1 : 1 ≤ s.size
      · by_cases k2 : s.size ≤ 64
        · rw [decide_eq_true (⟨k1, k2⟩ : 1 ≤ s.size ∧ s.size ≤ 64)] at hN
          go_wp2_with fail
          go_ret
          exact ⟨ret_b (hN.out.trans (decide_eq_true (by omega)).symm), rfl⟩
        · rw [decide_eq_false (fun h => k2 h.2 : ¬ (1 ≤ s.size ∧ s.size ≤ 64))] at hN
          go_wp2_with fail
          go_ret
          exact ⟨ret_b (hN.out.trans (decide_eq_false (by omega)).symm), rfl⟩
      · rw [decide_eq_false (fun h => k1 h.1 : ¬ (1 ≤ s.size ∧ s.size ≤ 64))] at hN
        go_wp2_with fail
        go_ret
        exact ⟨ret_b hN.out, rfl⟩
set_option maxHeartbeats 800000 in
set_option maxRecDepth 100000 in
theorem nunhex_any (s : ByteArray) (w : World) (hs : s.size ≤ 70368744177664) :
    Calls Tryz.prog 36 #[.string s] w fun e w' => e = .returned (.string (unT s.data.toList)) ∧ Below w.heap.size w w' := by
  have hF := unhex_any s w hs
  obtain ⟨T, hT⟩ : ∃ T, unT s.data.toList = T := ⟨_, rfl⟩
  obtain ⟨C, hC⟩ : ∃ C, unB s.data.toList = C := ⟨_, rfl⟩
  rw [hT, hC] at hF
  rw [hT]
  clear hT hC
  go_enter Tryz.func36, Tryz.ntmps36
  go_wp2_with fail
  refine hF.mono ?_
  rintro e w1 ⟨rfl, hb⟩
  replace hb := Box.mk hb
  clear hF
  go_wp2_with fail
  go_ret
  exact ⟨rfl, hb.out⟩
/-- A checkpoint as a value. -/
def ckV (c : Ck) : Value := .agg #[.string c.o, .int .i64 c.n, .string c.r]
def ckCells (c : Ck) : List Value := [.string c.o, .int .i64 c.n, .string c.r]
set_option maxHeartbeats 1600000 in
set_option maxRecDepth 100000 in
theorem good_any (c : Ck) (w : World) (ho : c.o.size ≤ 140737488355328) (hr : c.r.size ≤ 140737488355328) :
    Calls Tryz.prog 32 #[ckV c] w fun e w' => e = .returned (.bool (gC c)) ∧ Below w.heap.size w w' := by
  obtain ⟨o, n, r⟩ := c
  simp only at ho hr
  have hF := fun w' => origin_any o w' ho
  have hg : gC ⟨o, n, r⟩ = (gO o.data.toList && decide (0 ≤ n) && decide (n ≤ 1024) && decide (r.size = 32)) := rfl
  rw [hg]
  obtain ⟨G, hG⟩ : ∃ G, gO o.data.toList = G := ⟨_, rfl⟩
  rw [hG] at hF ⊢
  have hb := bel_alloc w (.cells #[.string o, .int .i64 n, .string r] 23)
  replace hb := Box.mk hb
  unfold ckV
  clear hg hG ho
  cases G with
  | false =>
    go_enter Tryz.func32, Tryz.ntmps32
    go_wp2_with fail
    refine (hF _).mono ?_
    clear hF
    rintro e w1 ⟨rfl, rfl⟩
    go_wp2_with fail
    go_ret
    exact ⟨rfl, hb.out⟩
  | true =>
    by_cases h1 : 0 ≤ n
    · by_cases h2 : n ≤ 1024
      · by_cases h3 : r.size = 32
        · have h4 : (r.size : Int) = 32 := by omega
          rw [decide_eq_true h1, decide_eq_true h2, decide_eq_true h3]
          clear h3
          go_enter Tryz.func32, Tryz.ntmps32
          go_wp2_with fail
          refine (hF _).mono ?_
          clear hF
          rintro e w1 ⟨rfl, rfl⟩
          go_wp2_with fail
          go_ret
          exact ⟨rfl, hb.out⟩
        · have h4 : ((r.size : Int) == 32) = false := by simpa using (by omega : (r.size : Int) ≠ 32)
          rw [decide_eq_true h1, decide_eq_true h2, decide_eq_false h3]
          clear h3
          go_enter Tryz.func32, Tryz.ntmps32
          go_wp2_with fail
          refine (hF _).mono ?_
          clear hF
          rintro e w1 ⟨rfl, rfl⟩
          go_wp2_with fail
          go_ret
          exact ⟨rfl, hb.out⟩
      · rw [decide_eq_true h1, decide_eq_false h2]
        go_enter Tryz.func32, Tryz.ntmps32
        go_wp2_with fail
        refine (hF _).mono ?_
        clear hF
        rintro e w1 ⟨rfl, rfl⟩
        go_wp2_with fail
        go_ret
        exact ⟨rfl, hb.out⟩
    · rw [decide_eq_false h1]
      go_enter Tryz.func32, Tryz.ntmps32
      go_wp2_with fail
      refine (hF _).mono ?_
      clear hF
      rintro e w1 ⟨rfl, rfl⟩
      go_wp2_with fail
      go_ret
      exact ⟨rfl, hb.out⟩
end Go.Proofs.YtdjppgmaokcgiaaGreatDoor.Nt

namespace Go.Proofs.YtdjppgmaokcgiaaGreatDoor.Nt
open Go Go.RowKit

/-- What note's functions need of the library's variables, below B. -/
structure NL (B : Nat) (w : World) : Prop where
  pis : ∀ w', Below B w w' → Lib.TabIs Tryz.prog w' "internal/strconv.uint64pow10" .u64 Lib.pow10Tab
  s : ∃ te pe, w.cell? ⟨2, 0, none⟩ = some (.iface te pe)
  r : ∃ te pe, w.cell? ⟨3, 0, none⟩ = some (.iface te pe)
  m : ∃ k, w.cell? ⟨0, 0, none⟩ = some (.int .i64 k)
  ls : 2 < B
  lr : 3 < B
  lm : 0 < B
theorem NL.below {B : Nat} {w w' : World} (h : NL B w) (hb : Below B w w') : NL B w' := by
  obtain ⟨a, b, c⟩ := h.s
  obtain ⟨d, e, f⟩ := h.r
  obtain ⟨k, hk⟩ := h.m
  exact ⟨fun w2 h2 => h.pis w2 (hb.trans h2), ⟨a, b, (hb.cell (p := ⟨2, 0, none⟩) h.ls).trans c⟩, ⟨d, e, (hb.cell (p := ⟨3, 0, none⟩) h.lr).trans f⟩, ⟨k, (hb.cell (p := ⟨0, 0, none⟩) h.lm).trans hk⟩, h.ls, h.lr, h.lm⟩
theorem NL.here {B : Nat} {w w' : World} (h : NL B w) (hB : B ≤ w.heap.size) (hb : Below w.heap.size w w') : NL B w' := h.below (hb.mono hB)
/-- A number's decimal digits. -/
def txN (n : Int) : ByteArray := ⟨(Lib.itoa n).toArray⟩
theorem bel_grow (w : World) (k : Nat) (os : Array Obj) : Below w.heap.size w (Sort.grow (w.drewN k) os) :=
  ⟨rfl, rfl, rfl, by simp [Sort.grow], fun j hj => by simp [Sort.grow, Array.getElem?_append, hj]⟩
theorem itoa_any (n : Int) (B : Nat) (w : World) (hL : NL B w) (h0 : -9223372036854775808 ≤ n) (h1 : n ≤ 9223372036854775807) :
    Calls Tryz.prog 17 #[.int .i64 n] w fun e w' => e = .returned (.string (txN n)) ∧ Below w.heap.size w w' :=
  (Tryz.strconv_Itoa n h0 h1 w (hL.pis w (Below.refl _ _))).mono fun e w' => by
    rintro ⟨rfl, k, os, rfl⟩
    exact ⟨rfl, bel_grow w k os⟩
theorem txN_size (n : Int) (h0 : -9223372036854775808 ≤ n) (h1 : n ≤ 9223372036854775807) : (txN n).size ≤ 21 := Lib.itoa_length_le n h0 h1
theorem bel_call {w0 w : World} {f : FuncId} {args : Array Value} {v : Value} (h : Calls Tryz.prog f args w fun e w' => e = .returned v ∧ Below w.heap.size w w') (hb : Below w0.heap.size w0 w) :
    Calls Tryz.prog f args w fun e w' => e = .returned v ∧ Below w0.heap.size w0 w' := h.mono fun _ _ he => ⟨he.1, mono_bel hb he.2 (Nat.le_refl _)⟩
theorem same_call {w0 w : World} {f : FuncId} {args : Array Value} {v : Value} (h : Calls Tryz.prog f args w fun e w' => e = .returned v ∧ w = w') (hb : Below w0.heap.size w0 w) :
    Calls Tryz.prog f args w fun e w' => e = .returned v ∧ Below w0.heap.size w0 w' := h.mono fun _ _ he => ⟨he.1, by rw [← he.2]; exact hb⟩
theorem tl_eq (a b : ByteArray) : (a.toList == b.toList) = decide (a = b) := by
  by_cases h : a = b
  · subst h; simp
  · have : ¬ a.toList = b.toList := fun e => h (ba_ext (by rw [← ByteArray.toList_eq, ← ByteArray.toList_eq]; exact e))
    simp [h, this]
set_option maxHeartbeats 1600000 in
set_option maxRecDepth 100000 in
theorem number_any (x : ByteArray) (B : Nat) (w : World) (hE : NL B w) (hx : x.size ≤ 281474976710656) :
    Calls Tryz.prog 35 #[.string x] w fun e w' => e = .returned (.int .i64 (numI x.data.toList)) ∧ Below w.heap.size w w' := by
  cases ha : Lib.atoiAll x.data.toList with
  | ok v =>
    have hC := Tryz.strconv_Atoi_ok x (by omega) v ha w
    have hn : numI x.data.toList = v := by unfold numI; rw [ha]
    rw [hn]
    clear hn ha
    go_enter Tryz.func35, Tryz.ntmps35
    go_wp2_with fail
    refine hC.mono ?_
    rintro e w1 ⟨rfl, hw⟩
    have hb : Box (Below w.heap.size w w1) := ⟨by
      rcases hw with rfl | ⟨t, rfl⟩
      · exact Below.refl _ _
      · exact Lib.bytesWorld_below _ _ _⟩
    clear hw hC
    go_wp2_with fail
    go_ret
    exact ⟨rfl, hb.out⟩
  | «syntax» =>
    obtain ⟨te, pe, hv⟩ := hE.s
    have hC := Tryz.strconv_Atoi_syntax x hx ha _ w hv (.inr ⟨te, pe, rfl⟩)
    have hn : numI x.data.toList = -1 := by unfold numI; rw [ha]
    rw [hn]
    clear hn ha hv
    go_enter Tryz.func35, Tryz.ntmps35
    go_wp2_with fail
    refine hC.mono ?_
    rintro e w1 ⟨N, rfl, _, _, hb⟩
    replace hb := Box.mk hb
    clear hC
    go_wp2_with fail
    go_ret
    exact ⟨rfl, hb.out⟩
  | range =>
    obtain ⟨te, pe, hv⟩ := hE.r
    have hC := Tryz.strconv_Atoi_range x hx ha _ w hv (.inr ⟨te, pe, rfl⟩)
    have hn : numI x.data.toList = -1 := by unfold numI; rw [ha]
    rw [hn]
    clear hn ha hv
    go_enter Tryz.func35, Tryz.ntmps35
    go_wp2_with fail
    refine hC.mono ?_
    rintro e w1 ⟨N, rfl, _, _, hb⟩
    replace hb := Box.mk hb
    clear hC
    go_wp2_with fail
    go_ret
    exact ⟨rfl, hb.out⟩

def sT : ByteArray := ⟨#[111, 115, 116, 108, 101, 114, 32, 99, 104, 101, 99, 107, 112, 111, 105, 110, 116, 10]⟩
def sN : ByteArray := ⟨#[10]⟩
def hxT (r : ByteArray) : ByteArray := ⟨(hexL r.data.toList).toArray⟩
theorem hxT_size (r : ByteArray) : (hxT r).size = 2 * r.size := by
  show (hexL r.data.toList).toArray.size = _
  rw [List.size_toArray, hexL_length, data_len]
/-- A checkpoint's text. -/
def ckT (c : Ck) : ByteArray := ⟨(ckL c).toArray⟩
theorem ckT_eq (c : Ck) : sT ++ c.o ++ sN ++ txN c.n ++ sN ++ hxT c.r ++ sN = ckT c := by
  refine ba_ext ?_
  simp only [ByteArray.data_append, Array.toList_append]
  show _ = ckL c
  unfold ckL sT sN txN hxT lTitle
  simp [jn]
def txtS (c : Ck) : ByteArray := if gC c = true then ckT c else ByteArray.empty
def txtE (c : Ck) : Int := if gC c = true then 0 else 1
def txtV (c : Ck) : Value := .tuple #[.string (txtS c), .int .i64 (txtE c)]
theorem txtV_yes {c : Ck} (h : gC c = true) : txtV c = .tuple #[.string (ckT c), .int .i64 0] := by unfold txtV txtS txtE; rw [if_pos h, if_pos h]
theorem txtV_no {c : Ck} (h : gC c = false) : txtV c = .tuple #[.string ⟨#[]⟩, .int .i64 1] := by unfold txtV txtS txtE; rw [if_neg (by simp [h]), if_neg (by simp [h])]; rfl
theorem gO_size {o : ByteArray} (h : gO o.data.toList = true) : o.size ≤ 64 := by
  unfold gO at h
  rw [data_len] at h
  simp only [Bool.and_eq_true, decide_eq_true_eq] at h
  exact h.2.2
set_option maxHeartbeats 1600000 in
set_option maxRecDepth 100000 in
theorem text_any (c : Ck) (B : Nat) (w : World) (hL : NL B w) (hB : B ≤ w.heap.size) (ho : c.o.size ≤ 140737488355328) (hr : c.r.size ≤ 140737488355328) :
    Calls Tryz.prog 13 #[ckV c] w fun e w' => e = .returned (txtV c) ∧ Below w.heap.size w w' := by
  obtain ⟨W1, hW1⟩ : ∃ W1, w.alloc (.cells #[.string c.o, .int .i64 c.n, .string c.r] 23) = W1 := ⟨_, rfl⟩
  have hB1 : Below w.heap.size w W1 := by rw [← hW1]; exact bel_alloc _ _
  have hS1 : Pk.Blk W1 w.heap.size [.string c.o, .int .i64 c.n, .string c.r] 23 := by rw [← hW1]; exact Pk.Blk.new w _ _
  have hF := good_any c W1 ho hr
  have hE := Box.mk (ckT_eq c)
  have hL1 := hL.here hB hB1
  have s0 : W1.cell? ⟨w.heap.size, 0, none⟩ = some (.string c.o) := hS1.cell 0
  have s1 : W1.cell? ⟨w.heap.size, 1, none⟩ = some (.int .i64 c.n) := hS1.cell 1
  have s2 : W1.cell? ⟨w.heap.size, 2, none⟩ = some (.string c.r) := hS1.cell 2
  have hsz : B ≤ W1.heap.size := Nat.le_trans hB hB1.size
  cases hg : gC c with
  | false =>
    rw [hg] at hF
    rw [txtV_no hg]
    obtain ⟨o, n, r⟩ := c
    unfold ckV at hF ⊢
    simp only at hF s0 s1 s2 hW1 ⊢
    replace hB1 := Box.mk hB1
    clear hE hL hL1 hS1 ho hr hg hsz hB
    go_enter Tryz.func13, Tryz.ntmps13
    go_wp2_with fail
    refine hF.mono ?_
    clear hF
    rintro e w1 ⟨rfl, hb1⟩
    replace hb1 := Box.mk hb1
    go_wp2_with fail
    go_ret2
    exact ⟨rfl, mono_bel hB1.out hb1.out (Nat.le_refl _)⟩
  | true =>
    rw [hg] at hF
    obtain ⟨g1, g2, g3, g4⟩ := gC_iff.1 hg
    have gz := gO_size g1
    rw [txtV_yes hg]
    rw [← hE.out]
    clear hE
    obtain ⟨o, n, r⟩ := c
    unfold ckV at hF ⊢
    simp only at hF s0 s1 s2 hW1 g1 g2 g3 g4 gz hS1 ⊢
    have hI := fun w' (hb : Below W1.heap.size W1 w') => itoa_any n B w' (hL1.here hsz hb) (by omega) (by omega)
    have hsz2 : Box ((txN n).size ≤ 21 ∧ (hxT r).size = 64 ∧ o.size ≤ 64) := ⟨txN_size n (by omega) (by omega), by rw [hxT_size, g4], gz⟩
    have hr2 : r.size ≤ 35184372088832 := by omega
    replace hI := Box.mk hI
    replace hB1 := Box.mk hB1
    replace hS1 := Box.mk hS1
    replace hr2 := Box.mk hr2
    clear hL hL1 ho hr hg hsz hB g1 g2 g3 g4 gz
    go_enter Tryz.func13, Tryz.ntmps13
    go_wp2_with fail
    refine hF.mono ?_
    clear hF
    rintro e w1 ⟨rfl, hb1⟩
    have hk1 := Box.mk (fun w' (h : Below w1.heap.size w1 w') => (mono_bel hb1 h (Nat.le_refl _)))
    have hlt : w.heap.size < W1.heap.size := hS1.out.lt
    have hC := Box.mk (fun w' (h : Below w1.heap.size w1 w') => ((hk1.out w' h).block _ hlt).trans hS1.out)
    replace hb1 := Box.mk hb1
    clear s0 s1 s2 hlt hS1
    go_wp2_with fail
    refine region_quiet (fun w' => Below w1.heap.size w1 w') (by kernel_rfl) (by kernel_rfl) (dB _) ?_
    repeat (go_big_quiet_step (first | exact fun _ => rfl | rfl))
    refine quiet_val rfl (.string o) (fun w' hw' => by have h3 := Pk.Blk.cell (hC.out w' hw') 0; simp only [List.getElem?_cons_zero] at h3; go_simp) ?_
    simp only [Act.put, List.setIfInBounds_toArray, List.set_cons_succ, List.set_cons_zero]
    repeat (go_big_quiet_step (first | exact fun _ => rfl | rfl))
    refine quiet_val rfl (.string (sT ++ o)) (fun w' _ => by unfold sT; go_simp; have := hsz2.out; omega) ?_
    simp only [Act.put, List.setIfInBounds_toArray, List.set_cons_succ, List.set_cons_zero]
    repeat (go_big_quiet_step (first | exact fun _ => rfl | rfl))
    refine quiet_val rfl (.string (sT ++ o ++ sN)) (fun w' _ => by unfold sN; go_simp; have := hsz2.out; have e1 : sT.size = 18 := rfl; omega) ?_
    simp only [Act.put, List.setIfInBounds_toArray, List.set_cons_succ, List.set_cons_zero]
    repeat (go_big_quiet_step (first | exact fun _ => rfl | rfl))
    refine quiet_val rfl (.int .i64 n) (fun w' hw' => by have h3 := Pk.Blk.cell (hC.out w' hw') 1; simp only [List.getElem?_cons_zero, List.getElem?_cons_succ] at h3; go_simp) ?_
    simp only [Act.put, List.setIfInBounds_toArray, List.set_cons_succ, List.set_cons_zero]
    repeat (go_big_quiet_step (first | exact fun _ => rfl | rfl))
    refine quiet_call rfl (.string (txN n)) (fun w' hw' => bel_call (hI.out w' (mono_bel hb1.out hw' (Nat.le_refl _))) hw') (fun w' _ => by go_simp) ?_
    simp only [Act.put, List.setIfInBounds_toArray, List.set_cons_succ, List.set_cons_zero]
    repeat (go_big_quiet_step (first | exact fun _ => rfl | rfl))
    refine quiet_val rfl (.string (sT ++ o ++ sN ++ txN n)) (fun w' _ => by go_simp; have := hsz2.out; have e1 : sT.size = 18 := rfl; have e2 : sN.size = 1 := rfl; omega) ?_
    simp only [Act.put, List.setIfInBounds_toArray, List.set_cons_succ, List.set_cons_zero]
    repeat (go_big_quiet_step (first | exact fun _ => rfl | rfl))
    refine quiet_val rfl (.string (sT ++ o ++ sN ++ txN n ++ sN)) (fun w' _ => by unfold sN; go_simp; have := hsz2.out; have e1 : sT.size = 18 := rfl; have e2 : sN.size = 1 := rfl; omega) ?_
    simp only [Act.put, List.setIfInBounds_toArray, List.set_cons_succ, List.set_cons_zero]
    repeat (go_big_quiet_step (first | exact fun _ => rfl | rfl))
    refine quiet_val rfl (.string r) (fun w' hw' => by have h3 := Pk.Blk.cell (hC.out w' hw') 2; simp only [List.getElem?_cons_zero, List.getElem?_cons_succ] at h3; go_simp) ?_
    simp only [Act.put, List.setIfInBounds_toArray, List.set_cons_succ, List.set_cons_zero]
    repeat (go_big_quiet_step (first | exact fun _ => rfl | rfl))
    refine quiet_call rfl (.string (hxT r)) (fun w' hw' => bel_call (hex_any r w' hr2.out) hw') (fun w' _ => by go_simp) ?_
    simp only [Act.put, List.setIfInBounds_toArray, List.set_cons_succ, List.set_cons_zero]
    repeat (go_big_quiet_step (first | exact fun _ => rfl | rfl))
    refine quiet_val rfl (.string (sT ++ o ++ sN ++ txN n ++ sN ++ hxT r)) (fun w' _ => by go_simp; have := hsz2.out; have e1 : sT.size = 18 := rfl; have e2 : sN.size = 1 := rfl; omega) ?_
    simp only [Act.put, List.setIfInBounds_toArray, List.set_cons_succ, List.set_cons_zero]
    repeat (go_big_quiet_step (first | exact fun _ => rfl | rfl))
    refine quiet_val rfl (.string (sT ++ o ++ sN ++ txN n ++ sN ++ hxT r ++ sN)) (fun w' _ => by unfold sN; go_simp; have := hsz2.out; have e1 : sT.size = 18 := rfl; have e2 : sN.size = 1 := rfl; omega) ?_
    simp only [Act.put, List.setIfInBounds_toArray, List.set_cons_succ, List.set_cons_zero]
    repeat (go_big_quiet_step (first | exact fun _ => rfl | rfl))
    refine wpQuiet_nil ?_
    intro w2 hw2
    have hb2 := Box.mk (mono_bel hB1.out (hk1.out w2 hw2) (Nat.le_refl _))
    clear hI hC hb1 hk1 hB1 hsz2 hr2 hw2
    obtain ⟨P, hP⟩ : ∃ P, sT ++ o ++ sN ++ txN n ++ sN ++ hxT r ++ sN = P := ⟨_, rfl⟩
    rw [hP]
    replace hP := Box.mk hP
    go_wp2_with fail
    go_ret2
    exact ⟨by rw [hP.out]; rfl, hb2.out⟩
set_option maxHeartbeats 1600000 in
set_option maxRecDepth 100000 in
theorem dtext_any (c : Ck) (B : Nat) (w : World) (hL : NL B w) (hB : B ≤ w.heap.size) (ho : c.o.size ≤ 140737488355328) (hr : c.r.size ≤ 140737488355328) :
    Calls Tryz.prog 5 #[ckV c] w fun e w' => e = .returned (txtV c) ∧ Below w.heap.size w w' := by
  obtain ⟨W1, hW1⟩ : ∃ W1, w.alloc (.cells #[.string c.o, .int .i64 c.n, .string c.r] 23) = W1 := ⟨_, rfl⟩
  have hB1 : Below w.heap.size w W1 := by rw [← hW1]; exact bel_alloc _ _
  have hS1 : Pk.Blk W1 w.heap.size [.string c.o, .int .i64 c.n, .string c.r] 23 := by rw [← hW1]; exact Pk.Blk.new w _ _
  have hF := fun w' => dorigin_any c.o w' ho
  have hE := Box.mk (ckT_eq c)
  have hL1 := hL.here hB hB1
  have s0 : W1.cell? ⟨w.heap.size, 0, none⟩ = some (.string c.o) := hS1.cell 0
  have s1 : W1.cell? ⟨w.heap.size, 1, none⟩ = some (.int .i64 c.n) := hS1.cell 1
  have s2 : W1.cell? ⟨w.heap.size, 2, none⟩ = some (.string c.r) := hS1.cell 2
  have hsz : B ≤ W1.heap.size := Nat.le_trans hB hB1.size
  have hgd : gC c = (gO c.o.data.toList && decide (0 ≤ c.n) && decide (c.n ≤ 1024) && decide (c.r.size = 32)) := rfl
  cases hg : gC c with
  | false =>
    rw [txtV_no hg]
    rw [hg] at hgd
    obtain ⟨o, n, r⟩ := c
    unfold ckV
    simp only at hF s0 s1 s2 hW1 hgd ho hr ⊢
    replace hB1 := Box.mk hB1
    obtain ⟨G, hG⟩ : ∃ G, gO o.data.toList = G := ⟨_, rfl⟩
    rw [hG] at hF hgd
    clear hE hL hL1 hS1 ho hg hsz hB hG
    cases G with
    | false =>
      clear hgd
      go_enter Tryz.func5, Tryz.ntmps5
      go_wp2_with fail
      refine (hF _).mono ?_
      clear hF
      rintro e w1 ⟨rfl, rfl⟩
      go_wp2_with fail
      go_ret2
      exact ⟨rfl, hB1.out⟩
    | true =>
      by_cases h1 : 0 ≤ n
      · by_cases h2 : n ≤ 1024
        · have h4 : ((r.size : Int) != 32) = true := by
            have h3 : ¬ r.size = 32 := fun e => by rw [decide_eq_true h1, decide_eq_true h2, decide_eq_true e] at hgd; cases hgd
            simpa using (by omega : (r.size : Int) ≠ 32)
          clear hgd
          go_enter Tryz.func5, Tryz.ntmps5
          go_wp2_with fail
          refine (hF _).mono ?_
          clear hF
          rintro e w1 ⟨rfl, rfl⟩
          go_wp2_with fail
          go_ret2
          exact ⟨rfl, hB1.out⟩
        · clear hgd
          go_enter Tryz.func5, Tryz.ntmps5
          go_wp2_with fail
          refine (hF _).mono ?_
          clear hF
          rintro e w1 ⟨rfl, rfl⟩
          go_wp2_with fail
          go_ret2
          exact ⟨rfl, hB1.out⟩
      · clear hgd
        go_enter Tryz.func5, Tryz.ntmps5
        go_wp2_with fail
        refine (hF _).mono ?_
        clear hF
        rintro e w1 ⟨rfl, rfl⟩
        go_wp2_with fail
        go_ret2
        exact ⟨rfl, hB1.out⟩
  | true =>
    clear hgd
    obtain ⟨g1, g2, g3, g4⟩ := gC_iff.1 hg
    have gz := gO_size g1
    rw [txtV_yes hg]
    rw [← hE.out]
    clear hE
    obtain ⟨o, n, r⟩ := c
    unfold ckV
    simp only at hF s0 s1 s2 hW1 g1 g2 g3 g4 gz hS1 ⊢
    rw [g1] at hF
    have hI := fun w' (hb : Below W1.heap.size W1 w') => itoa_any n B w' (hL1.here hsz hb) (by omega) (by omega)
    have hsz2 : Box ((txN n).size ≤ 21 ∧ (hxT r).size = 64 ∧ o.size ≤ 64) := ⟨txN_size n (by omega) (by omega), by rw [hxT_size, g4], gz⟩
    have hr2 : Box (r.size ≤ 35184372088832) := ⟨by omega⟩
    have h4 : ((r.size : Int) != 32) = false := by rw [g4]; rfl
    replace hI := Box.mk hI
    replace hB1 := Box.mk hB1
    replace hS1 := Box.mk hS1
    clear hL hL1 ho hr hg hsz hB g1 g4 gz
    go_enter Tryz.func5, Tryz.ntmps5
    go_wp2_with fail
    refine (hF _).mono ?_
    clear hF
    rintro e w1 ⟨rfl, rfl⟩
    have hk1 := Box.mk (fun w' (h : Below W1.heap.size W1 w') => h)
    have hlt : w.heap.size < W1.heap.size := hS1.out.lt
    have hC := Box.mk (fun w' (h : Below W1.heap.size W1 w') => ((hk1.out w' h).block _ hlt).trans hS1.out)
    have hb1 : Box (Below W1.heap.size W1 W1) := ⟨Below.refl _ _⟩
    clear hlt hS1
    go_wp2_with fail
    refine region_quiet (fun w' => Below W1.heap.size W1 w') (by kernel_rfl) (by kernel_rfl) (dB _) ?_
    repeat (go_big_quiet_step (first | exact fun _ => rfl | rfl))
    refine quiet_val rfl (.string o) (fun w' hw' => by have h3 := Pk.Blk.cell (hC.out w' hw') 0; simp only [List.getElem?_cons_zero] at h3; go_simp) ?_
    simp only [Act.put, List.setIfInBounds_toArray, List.set_cons_succ, List.set_cons_zero]
    repeat (go_big_quiet_step (first | exact fun _ => rfl | rfl))
    refine quiet_val rfl (.string (sT ++ o)) (fun w' _ => by unfold sT; go_simp; have := hsz2.out; omega) ?_
    simp only [Act.put, List.setIfInBounds_toArray, List.set_cons_succ, List.set_cons_zero]
    repeat (go_big_quiet_step (first | exact fun _ => rfl | rfl))
    refine quiet_val rfl (.string (sT ++ o ++ sN)) (fun w' _ => by unfold sN; go_simp; have := hsz2.out; have e1 : sT.size = 18 := rfl; omega) ?_
    simp only [Act.put, List.setIfInBounds_toArray, List.set_cons_succ, List.set_cons_zero]
    repeat (go_big_quiet_step (first | exact fun _ => rfl | rfl))
    refine quiet_val rfl (.int .i64 n) (fun w' hw' => by have h3 := Pk.Blk.cell (hC.out w' hw') 1; simp only [List.getElem?_cons_zero, List.getElem?_cons_succ] at h3; go_simp) ?_
    simp only [Act.put, List.setIfInBounds_toArray, List.set_cons_succ, List.set_cons_zero]
    repeat (go_big_quiet_step (first | exact fun _ => rfl | rfl))
    refine quiet_call rfl (.string (txN n)) (fun w' hw' => bel_call (hI.out w' (mono_bel hb1.out hw' (Nat.le_refl _))) hw') (fun w' _ => by go_simp) ?_
    simp only [Act.put, List.setIfInBounds_toArray, List.set_cons_succ, List.set_cons_zero]
    repeat (go_big_quiet_step (first | exact fun _ => rfl | rfl))
    refine quiet_val rfl (.string (sT ++ o ++ sN ++ txN n)) (fun w' _ => by go_simp; have := hsz2.out; have e1 : sT.size = 18 := rfl; have e2 : sN.size = 1 := rfl; omega) ?_
    simp only [Act.put, List.setIfInBounds_toArray, List.set_cons_succ, List.set_cons_zero]
    repeat (go_big_quiet_step (first | exact fun _ => rfl | rfl))
    refine quiet_val rfl (.string (sT ++ o ++ sN ++ txN n ++ sN)) (fun w' _ => by unfold sN; go_simp; have := hsz2.out; have e1 : sT.size = 18 := rfl; have e2 : sN.size = 1 := rfl; omega) ?_
    simp only [Act.put, List.setIfInBounds_toArray, List.set_cons_succ, List.set_cons_zero]
    repeat (go_big_quiet_step (first | exact fun _ => rfl | rfl))
    refine quiet_val rfl (.string r) (fun w' hw' => by have h3 := Pk.Blk.cell (hC.out w' hw') 2; simp only [List.getElem?_cons_zero, List.getElem?_cons_succ] at h3; go_simp) ?_
    simp only [Act.put, List.setIfInBounds_toArray, List.set_cons_succ, List.set_cons_zero]
    repeat (go_big_quiet_step (first | exact fun _ => rfl | rfl))
    refine quiet_call rfl (.string (hxT r)) (fun w' hw' => bel_call (rhex_any r w' hr2.out) hw') (fun w' _ => by go_simp) ?_
    simp only [Act.put, List.setIfInBounds_toArray, List.set_cons_succ, List.set_cons_zero]
    repeat (go_big_quiet_step (first | exact fun _ => rfl | rfl))
    refine quiet_val rfl (.string (sT ++ o ++ sN ++ txN n ++ sN ++ hxT r)) (fun w' _ => by go_simp; have := hsz2.out; have e1 : sT.size = 18 := rfl; have e2 : sN.size = 1 := rfl; omega) ?_
    simp only [Act.put, List.setIfInBounds_toArray, List.set_cons_succ, List.set_cons_zero]
    repeat (go_big_quiet_step (first | exact fun _ => rfl | rfl))
    refine quiet_val rfl (.string (sT ++ o ++ sN ++ txN n ++ sN ++ hxT r ++ sN)) (fun w' _ => by unfold sN; go_simp; have := hsz2.out; have e1 : sT.size = 18 := rfl; have e2 : sN.size = 1 := rfl; omega) ?_
    simp only [Act.put, List.setIfInBounds_toArray, List.set_cons_succ, List.set_cons_zero]
    repeat (go_big_quiet_step (first | exact fun _ => rfl | rfl))
    refine wpQuiet_nil ?_
    intro w2 hw2
    have hb2 := Box.mk (mono_bel hB1.out (hk1.out w2 hw2) (Nat.le_refl _))
    clear hI hC hb1 hk1 hB1 hsz2 hr2 hw2
    obtain ⟨P, hP⟩ : ∃ P, sT ++ o ++ sN ++ txN n ++ sN ++ hxT r ++ sN = P := ⟨_, rfl⟩
    rw [hP]
    replace hP := Box.mk hP
    go_wp2_with fail
    go_ret2
    exact ⟨by rw [hP.out]; rfl, hb2.out⟩
set_option maxHeartbeats 1600000 in
set_option maxRecDepth 100000 in
/-- The document's size. -/
theorem size_any (s : ByteArray) (B : Nat) (w : World) (hL : NL B w) (hs : s.size ≤ 140737488355328) :
    Calls Tryz.prog 51 #[.string s] w fun e w' => e = .returned (.int .i64 (szI s.data.toList)) ∧ Below w.heap.size w w' := by
  have hI := fun (n : Int) h0 h1 => itoa_any n B w hL h0 h1
  have h0 : Box (szL 0 (s.data.toList.take 0) = some 0) := ⟨rfl⟩
  replace hI := Box.mk hI
  clear hL
  go_enter Tryz.func51, Tryz.ntmps51
  go_wp2_with fail
  go_loop [3, 4] (fun m q => ∃ i n : Nat, i ≤ s.size ∧ q = .int .i64 (i : Int) ∧ m = .int .i64 (n : Int) ∧ n ≤ 10249 ∧ Box (szL 0 (s.data.toList.take i) = some n)) (fun _ q => s.size - (intOf q).toNat)
  case atStart => exact ⟨0, 0, by omega, rfl, rfl, by omega, h0⟩
  case round =>
    clear h0
    obtain ⟨i, n, hi, rfl, rfl, hn, hZ⟩ := hrel
    by_cases hlt : i < s.size
    · obtain ⟨x, hx⟩ : ∃ x, s[i] = x := ⟨_, rfl⟩
      have hxl := x.toNat_lt
      have htk : s.data.toList.take (i + 1) = s.data.toList.take i ++ [x] := by rw [get_take s i hlt, hx]
      have hsn := szL_snoc (s.data.toList.take i) 0 x
      rw [← htk, hZ.out, Option.bind_some] at hsn
      clear htk
      by_cases hd : isD x = true ∧ n ≤ 1024
      · rw [if_pos hd] at hsn
        obtain ⟨hd1, hd2⟩ := hd
        obtain ⟨d1, d2⟩ := isD_nat hd1
        replace hsn := Box.mk hsn
        replace hx := hx
        clear hd1 hZ
        go_wp2_with fail
        go_round
        case rel => exact ⟨i + 1, 10 * n + (x.toNat - 48), by omega, by go_num, by first | go_num | (congr 1; omega), by omega, hsn⟩
        case measure => simp [intOf]; omega
      · rw [if_neg hd] at hsn
        have hbad : Box (szI s.data.toList = -1) := ⟨by
          have := szL_app _ 0 (s.data.toList.drop (i + 1)) hsn
          rw [List.take_append_drop] at this
          unfold szI; rw [this]⟩
        clear hsn hZ
        by_cases d1 : 48 ≤ x.toNat
        · by_cases d2 : x.toNat ≤ 57
          · have d3 : 1024 < n := by
              rcases Nat.lt_or_ge 1024 n with h | h
              · exact h
              · exact absurd ⟨by rw [isD_dec]; simpa using ⟨d1, d2⟩, h⟩ hd
            clear hd
            go_wp2_with fail
            go_ret
            exact ⟨ret_i hbad.out, Below.refl _ _⟩
          · have d3 : 57 < x.toNat := by omega
            clear hd
            go_wp2_with fail
            go_ret
            exact ⟨ret_i hbad.out, Below.refl _ _⟩
        · clear hd
          go_wp2_with fail
          go_ret
          exact ⟨ret_i hbad.out, Below.refl _ _⟩
    · obtain rfl : i = s.size := by omega
      have hZ' := hZ.out
      rw [List.take_of_length_le (by rw [data_len]; omega)] at hZ'
      have hF := hI.out (n : Int) (by omega) (by omega)
      have hsz : szI s.data.toList = if Lib.decDigits n = s.data.toList then (n : Int) else -1 := by unfold szI; rw [hZ']
      have hTe : (txN (n : Int) = s) ↔ Lib.decDigits n = s.data.toList := by
        have : (txN (n : Int)).data.toList = Lib.decDigits n := by unfold txN; show Lib.itoa (n : Int) = _; rw [itoa_of (by omega), Int.toNat_natCast]
        exact ⟨fun h => by rw [← h, this], fun h => ba_ext (by rw [this, h])⟩
      obtain ⟨T, hT⟩ : ∃ T, txN (n : Int) = T := ⟨_, rfl⟩
      rw [hT] at hF hTe
      have hqs := tl_eq T s
      clear hZ hZ' hI hT
      by_cases he : T = s
      · have hq2 : (T.toList != s.toList) = false := by rw [bne, hqs, decide_eq_true he]; rfl
        rw [decide_eq_true he] at hqs
        rw [if_pos (hTe.1 he)] at hsz
        replace hsz := Box.mk hsz
        clear hTe he
        go_wp2_with fail
        refine hF.mono ?_
        clear hF
        rintro e w1 ⟨rfl, hb1⟩
        replace hb1 := Box.mk hb1
        go_wp2_with fail
        go_ret
        exact ⟨ret_i hsz.out, hb1.out⟩
      · have hq2 : (T.toList != s.toList) = true := by rw [bne, hqs, decide_eq_false he]; rfl
        rw [decide_eq_false he] at hqs
        rw [if_neg (fun h => he (hTe.2 h))] at hsz
        replace hsz := Box.mk hsz
        clear hTe he
        go_wp2_with fail
        refine hF.mono ?_
        clear hF
        rintro e w1 ⟨rfl, hb1⟩
        replace hb1 := Box.mk hb1
        go_wp2_with fail
        go_ret
        exact ⟨ret_i hsz.out, hb1.out⟩

/-! The document's lines. -/
def bT (l : List UInt8) : ByteArray := ⟨l.toArray⟩
theorem bT_data (s : ByteArray) : bT s.data.toList = s := rfl
/-- Where the document stands in a text: at, i, and the lines ahead. -/
structure LnAt (s : ByteArray) (a i : Nat) (ls : List (List UInt8)) : Prop where
  ai : a ≤ i
  is : i ≤ s.size
  st : lnL (s.data.toList.take i) = (ls, (s.extract a i).data.toList)
  len : ls.length ≤ i
theorem LnAt.zero (s : ByteArray) : LnAt s 0 0 [] := ⟨Nat.le_refl _, Nat.zero_le _, by simp [lnL, lnF], Nat.le_refl _⟩
theorem ext_snoc (s : ByteArray) (a i : Nat) (h1 : a ≤ i) (h2 : i < s.size) (x : UInt8) (hx : s[i] = x) : (s.extract a (i + 1)).data.toList = (s.extract a i).data.toList ++ [x] := by
  rw [Lib.extract_data, Lib.extract_data, show i + 1 - a = (i - a) + 1 by omega, List.take_succ_eq_append_getElem (by rw [List.length_drop, data_len]; omega)]
  congr 2
  rw [List.getElem_drop, ← hx]
  have : a + (i - a) = i := by omega
  simp only [this]
  rfl
theorem LnAt.next {s : ByteArray} {a i : Nat} {ls : List (List UInt8)} (h : LnAt s a i ls) (h2 : i < s.size) (x : UInt8) (hx : s[i] = x) (hn : x ≠ 10) : LnAt s a (i + 1) ls :=
  ⟨by have := h.ai; omega, h2, by
    rw [get_take s i h2, hx]
    unfold lnL
    rw [lnF_app, show lnF ([], []) (s.data.toList.take i) = _ from h.st, ext_snoc s a i h.ai h2 x hx]
    show stp _ x = _
    unfold stp
    rw [if_neg hn], by have := h.len; omega⟩
theorem LnAt.line {s : ByteArray} {a i : Nat} {ls : List (List UInt8)} (h : LnAt s a i ls) (h2 : i < s.size) (hx : s[i] = 10) : LnAt s (i + 1) (i + 1) (ls ++ [(s.extract a i).data.toList]) :=
  ⟨Nat.le_refl _, h2, by
    rw [get_take s i h2, hx]
    unfold lnL
    rw [lnF_app, show lnF ([], []) (s.data.toList.take i) = _ from h.st]
    show stp _ 10 = _
    unfold stp
    rw [if_pos rfl, show (s.extract (i + 1) (i + 1)).data.toList = [] by rw [Lib.extract_data, Nat.sub_self, List.take_zero]], by rw [List.length_append]; have := h.len; simp; omega⟩
/-- The lines as texts. -/
def lnT (s : ByteArray) : List ByteArray := (lnL s.data.toList).1.map bT
def lnB (s : ByteArray) : Bool := decide ((lnL s.data.toList).2 = [])
def LinS (B : Nat) (s : ByteArray) (e : Ending) (w' : World) : Prop := ∃ v, e = .returned (.tuple #[v, .bool (lnB s)]) ∧ TxR B w' v (lnT s)
set_option maxHeartbeats 3200000 in
set_option maxRecDepth 100000 in
theorem lines_any (s : ByteArray) (w : World) (hs : s.size ≤ 1073741824) :
    Calls Tryz.prog 46 #[.string s] w fun e w' => LinS w.heap.size s e w' ∧ Below w.heap.size w w' := by
  have h0 : Box (TxR w.heap.size w (.slice none 0 0) (([] : List (List UInt8)).map bT) ∧ Below w.heap.size w w ∧ LnAt s 0 0 []) := ⟨TxR.nil _ _, Below.refl _ _, LnAt.zero s⟩
  go_enter Tryz.func46, Tryz.ntmps46
  go_wp2_with fail
  go_loopw [4, 5, 6] (fun v p q wr => ∃ (a i : Nat) (ls : List (List UInt8)), a ≤ i ∧ i ≤ s.size ∧ p = .int .i64 (a : Int) ∧ q = .int .i64 (i : Int) ∧ Box (TxR w.heap.size wr v (ls.map bT) ∧ Below w.heap.size w wr ∧ LnAt s a i ls)) (fun _ _ q _ => s.size - (intOf q).toNat)
  case atStart => exact ⟨0, 0, [], by omega, by omega, rfl, rfl, h0⟩
  case round =>
    clear h0
    obtain ⟨a, i, ls, ha, hi, rfl, rfl, hA⟩ := hrel
    by_cases hlt : i < s.size
    · obtain ⟨x, hx⟩ : ∃ x, s[i] = x := ⟨_, rfl⟩
      have hxl := x.toNat_lt
      by_cases h10 : x = 10
      · have hN := Box.mk (hA.out.2.2.line hlt (by rw [hx, h10]))
        have hx10 : ((x.toNat : Int) == 10) = true := by rw [h10]; rfl
        have hll := hA.out.2.2.len
        obtain ⟨a7, c7, e7⟩ := hA.out.1.shape
        rw [List.length_map] at e7
        obtain ⟨n7, hn7⟩ : ∃ n, ls.length = n := ⟨_, rfl⟩
        rw [hn7] at e7 hll
        subst e7
        replace hn7 := Box.mk hn7
        clear h10
        go_wp2_with (at_builtin; refine wpList_pushT rfl (.tmp 17) (.tmp 22) rfl w.heap.size _ (ls.map bT) [s.extract a i] rfl (hA.out.1.here (bel_alloc _ _)) (by have := hA.out.2.1.size; simp; omega) (some ⟨wr.heap.size, 0, none⟩) 1 1 rfl rfl (parts_new wr [s.extract a i] 9) (by rw [List.length_map, hn7.out]; omega) ?_)
        rintro v8 w8 hp8
        have hA8 : Box (TxR w.heap.size w8 v8 ((ls ++ [(s.extract a i).data.toList]).map bT) ∧ Below w.heap.size w w8 ∧ LnAt s (i + 1) (i + 1) (ls ++ [(s.extract a i).data.toList])) :=
          ⟨by rw [List.map_append]; exact hp8.row, hp8.bel (mono_bel hA.out.2.1 (bel_alloc _ _) (Nat.le_refl _)) (hA.out.1.here (bel_alloc _ _)), hN.out⟩
        clear hA hp8 hN
        go_wp2_with fail
        exact ⟨⟨i + 1, i + 1, _, by omega, by omega, by go_num, by go_num, hA8⟩, by simp [intOf]; omega⟩
      · have hN : Box (TxR w.heap.size wr u4 (ls.map bT) ∧ Below w.heap.size w wr ∧ LnAt s a (i + 1) ls) := ⟨hA.out.1, hA.out.2.1, hA.out.2.2.next hlt x hx h10⟩
        have hx10 : ((x.toNat : Int) == 10) = false := by
          have : x.toNat ≠ 10 := fun e => h10 (UInt8.toNat_inj.1 e)
          simpa using (by omega : (x.toNat : Int) ≠ 10)
        clear h10 hA
        go_wp2_with fail
        exact ⟨⟨a, i + 1, ls, by omega, by omega, rfl, by go_num, hN⟩, by simp [intOf]; omega⟩
    · obtain rfl : i = s.size := by omega
      have hst := hA.out.2.2.st
      rw [List.take_of_length_le (by rw [data_len]; omega)] at hst
      have h1 : lnT s = ls.map bT := by unfold lnT; rw [hst]
      have h2 : lnB s = decide ((a : Int) = (s.size : Int)) := by
        unfold lnB
        rw [hst]
        have hel : (s.extract a s.size).data.toList.length = s.size - a := by rw [Lib.extract_data]; simp
        by_cases hae : a = s.size
        · rw [decide_eq_true (by omega : (a : Int) = (s.size : Int)), decide_eq_true]
          exact List.eq_nil_of_length_eq_zero (by rw [hel]; omega)
        · rw [decide_eq_false (by omega : ¬ (a : Int) = (s.size : Int)), decide_eq_false]
          intro h
          simp only at h
          rw [h] at hel
          simp at hel
          omega
      have hL : Box (∀ b, b = decide ((a : Int) = (s.size : Int)) → LinS w.heap.size s (.returned (.tuple #[u4, .bool b])) wr ∧ Below w.heap.size w wr) := ⟨fun b hb => ⟨⟨u4, by rw [h2, hb], by rw [h1]; exact hA.out.1⟩, hA.out.2.1⟩⟩
      obtain ⟨a7, c7, e7⟩ := hA.out.1.shape
      obtain ⟨n7, hn7⟩ : ∃ n, (ls.map bT).length = n := ⟨_, rfl⟩
      rw [hn7] at e7
      clear hA hst h1 h2 hn7
      subst e7
      go_wp2_with fail
      go_ret2
      exact hL.out _ (by first | rfl | simp)
end Go.Proofs.YtdjppgmaokcgiaaGreatDoor.Nt

namespace Go.Proofs.YtdjppgmaokcgiaaGreatDoor.Nt
open Go Go.RowKit

theorem chk_used (b : Nat) (w : World) (h0 : w.cell? ⟨b, 0, none⟩ = some (.pointer (some ⟨b, 0, none⟩))) :
    Calls Tryz.prog 60 #[.pointer (some ⟨b, 0, none⟩)] w fun e w' => e = .returned (.tuple #[]) ∧ w' = w :=
  Any.Builder_copyCheck_used { Tryz.lays166 with } Tryz.Builder_Extra_166.toX72 b w h0
theorem chk_fresh (b : Nat) (v : Value) (w : World) (hb : Pk.Blk w b [.pointer none, v] 69) :
    Calls Tryz.prog 60 #[.pointer (some ⟨b, 0, none⟩)] w fun e w' => e = .returned (.tuple #[]) ∧ w' = w.setCell ⟨b, 0, none⟩ (.pointer (some ⟨b, 0, none⟩)) :=
  Any.Builder_copyCheck_fresh { Tryz.lays166 with } Tryz.Builder_Extra_166.toX72 b w (hb.cell 0) (by
    have : w.heap[b]? = some (.cells #[.pointer none, v] 69 (0, 0)) := hb
    simp only [World.shape?, this]
    rfl) (hb.free 0)
/-- A builder in block b: what it has. -/
structure BdAt (w : World) (b : Nat) (v : Value) (l : List UInt8) : Prop where
  blk : ∃ p, (p = .pointer none ∨ p = .pointer (some ⟨b, 0, none⟩)) ∧ Pk.Blk w b [p, v] 69
  own : Pk.Own w v l
theorem BdAt.new (w : World) : BdAt (w.alloc (.cells #[.pointer none, .slice none 0 0] 69)) w.heap.size (.slice none 0 0) [] :=
  ⟨⟨_, .inl rfl, Pk.Blk.new w [.pointer none, .slice none 0 0] _⟩, Pk.Own.nil _⟩
theorem BdAt.chg {S : Nat → Prop} {w w' : World} {b : Nat} {v : Value} {l : List UInt8} (h : BdAt w b v l) (hc : Pk.Chg S w w') (hb : ¬ S b) (hv : ∀ k, v.ownBlock = some k → ¬ S k) : BdAt w' b v l := by
  obtain ⟨p, hp, hk⟩ := h.blk
  exact ⟨⟨p, hp, hc.blk hk hb⟩, h.own.chg hc hv⟩
theorem BdAt.apart {w : World} {b : Nat} {v : Value} {l : List UInt8} (h : BdAt w b v l) : v.ownBlock ≠ some b := by
  obtain ⟨p, hp, hk⟩ := h.blk
  exact h.own.apart hk (by decide)
theorem chk_any (b : Nat) (v : Value) (l : List UInt8) (w : World) (h : BdAt w b v l) :
    Calls Tryz.prog 60 #[.pointer (some ⟨b, 0, none⟩)] w fun e w' => e = .returned (.tuple #[]) ∧ Pk.Blk w' b [.pointer (some ⟨b, 0, none⟩), v] 69 ∧ Pk.Own w' v l ∧ Pk.Chg (fun k => k = b) w w' := by
  obtain ⟨p, hp, hk⟩ := h.blk
  rcases hp with rfl | rfl
  · refine (chk_fresh b v w hk).mono fun e w' he => ⟨he.1, ?_⟩
    rw [he.2]
    have hs : Pk.Chg (fun k => k = b) w (w.setCell ⟨b, 0, none⟩ (.pointer (some ⟨b, 0, none⟩))) := (Pk.Chg.refl (fun k => k = b) w).setCell (p := ⟨b, 0, none⟩) rfl _
    exact ⟨hk.setCell 0 _, h.own.chg hs fun k hk e => h.apart (by rw [hk, e]), hs⟩
  · refine (chk_used b w (hk.cell 0)).mono fun e w' he => ⟨he.1, ?_⟩
    rw [he.2]
    exact ⟨hk, h.own, Pk.Chg.refl _ _⟩
/-- What a write leaves. -/
structure BdPut (w : World) (b : Nat) (v : Value) (l : List UInt8) (v' : Value) (w' : World) : Prop where
  at_ : BdAt w' b v' l
  chg : Pk.Chg (fun k => k = b ∨ v.ownBlock = some k) w w'
  place : ∀ k, v'.ownBlock = some k → v.ownBlock = some k ∨ w.heap.size ≤ k
set_option maxHeartbeats 1600000 in
set_option maxRecDepth 100000 in
theorem wstr_any (b : Nat) (v : Value) (l : List UInt8) (s : ByteArray) (w : World) (h : BdAt w b v l) (hlen : l.length + s.size ≤ 70368744177664) :
    Calls Tryz.prog 38 #[.pointer (some ⟨b, 0, none⟩), .string s] w fun e w' => e = .returned (.tuple #[.int .i64 (s.size : Int), .nilIface]) ∧ ∃ v', BdPut w b v (l ++ s.data.toList) v' w' := by
  have hC := chk_any b v l w h
  obtain ⟨a, c, rfl⟩ := h.own.shape
  replace h := Box.mk h
  go_enter Tryz.func38, Tryz.ntmps38
  go_wp2_with fail
  refine hC.mono ?_
  clear hC
  rintro e w1 ⟨rfl, hk, hO, hc1⟩
  have c1 := hk.cell 1
  simp only [List.getElem?_cons_zero, List.getElem?_cons_succ] at c1
  replace hk := Box.mk hk
  replace hO := Box.mk hO
  replace hc1 := Box.mk hc1
  go_wp2_with (at_builtin; refine Pk.wpList_pushS rfl (.tmp 12) (.tmp 13) rfl _ l rfl hO.out s rfl hlen ?_)
  intro v' w2 hp
  have hap := hO.out.apart hk.out (by decide)
  have hk2 := hp.chg.blk hk.out fun e => hap e
  have d1 := hk2.cell 1
  have f1 := hk2.free 1
  simp only [List.getElem?_cons_zero, List.getElem?_cons_succ] at d1
  obtain ⟨a2, cc, rfl⟩ := hp.own.shape
  obtain ⟨M, hM⟩ : ∃ M, (l ++ s.data.toList).length = M := ⟨_, rfl⟩
  rw [hM] at hp ⊢
  clear hM
  replace hk2 := Box.mk hk2
  replace hp := Box.mk hp
  clear hlen
  go_wp2_with fail
  go_returns
  have hs : Pk.Chg (fun k => k = b) w2 (w2.setCell ⟨b, 1, none⟩ (.slice a2 M cc)) := (Pk.Chg.refl (fun k => k = b) w2).setCell (p := ⟨b, 1, none⟩) rfl _
  have hap2 := hp.out.own.apart hk2.out (by decide)
  refine ⟨rfl, _, ⟨⟨_, .inr rfl, hk2.out.setCell 1 _⟩, hp.out.own.chg hs fun k hk e => hap2 (by rw [hk, e])⟩, ?_, fun k hk => ?_⟩
  · exact ((hc1.out.mono fun i _ e => .inl e).trans (hp.out.chg.mono fun i _ e => .inr e) fun i _ e => e).trans hs fun i _ e => .inl e
  · rcases hp.out.place k hk with h1 | h1
    · exact .inl h1
    · exact .inr (Nat.le_trans hc1.out.size h1)
theorem freeze_chg (w : World) (g n : Nat) : Pk.Chg (fun k => k = g) w (w.freeze ⟨g, 0, none⟩ n) := by
  have h := Lib.below_freeze (B := 0) (Below.refl 0 w) (p := ⟨g, 0, none⟩) (Nat.zero_le _) n
  refine ⟨h.os, h.tape, h.output, h.size, fun k hk hn => ?_⟩
  unfold World.freeze
  split
  · rfl
  · simp only [Array.getElem?_modify]
    rw [if_neg (Ne.symm hn)]
set_option maxHeartbeats 1600000 in
set_option maxRecDepth 100000 in
/-- What it has as a text. -/
theorem bstr_any (b : Nat) (v : Value) (l : List UInt8) (w : World) (h : BdAt w b v l) (h0 : l ≠ []) :
    Calls Tryz.prog 39 #[.pointer (some ⟨b, 0, none⟩)] w fun e w' => e = .returned (.string ⟨l.toArray⟩) ∧ Pk.Chg (fun k => v.ownBlock = some k) w w' := by
  obtain ⟨p, _, hk⟩ := h.blk
  have hown := h.own
  have hl0 : l.length ≠ 0 := by simpa using h0
  obtain ⟨g, cap, cur, rfl, _, hg, hnc, hcm, hcs, htake⟩ : ∃ g cap cur, v = .slice (some ⟨g, 0, none⟩) l.length cap ∧ 0 ≤ g ∧ w.heap[g]? = some (.cells cur 5 (0, 0)) ∧ l.length ≤ cap ∧ cap ≤ maxLen ∧ cur.size = cap * 1 ∧ cur.toList.take (l.length * 1) = l.map Pk.yc := by
    rcases hown.2 with ⟨_, hz⟩ | ⟨g, cap, cur, hv, r⟩
    · exact absurd hz hl0
    · exact ⟨g, cap, cur, hv, r⟩
  have hk2 : Pk.Blk w.drew b [p, .slice (some ⟨g, 0, none⟩) l.length cap] 69 := hk
  have c1 : w.drew.cell? ⟨b, 1, none⟩ = some (.slice (some ⟨g, 0, none⟩) l.length cap) := hk2.cell 1
  have hSD : (Builtin.unsafeSliceData_ #[24] 91 #[.slice (some ⟨g, 0, none⟩) l.length cap]).run Tryz.prog w.drew = .ok (.pointer (some ⟨g, 0, none⟩)) w.drew :=
    Lib.run_unsafeSliceData_row _ _ _ _ _ _ (by omega)
  have hUS : (Builtin.unsafeString_ #[91, 3] 9 #[.pointer (some ⟨g, 0, none⟩), .int .i64 l.length]).run Tryz.prog w.drew = .ok (.string ⟨l.toArray⟩) (w.drew.freeze ⟨g, 0, none⟩ l.length) := by
    refine Lib.run_unsafeString_row w.drew 91 3 9 5 Tryz.underlying91 (by kernel_rfl) g cur.size (by have hg' : w.drew.heap[g]? = some (.cells cur 5 (0, 0)) := hg; simp [World.shape?, hg']) l h0 (by omega) (by unfold maxLen at hcm; omega) ?_
    intro j x hx
    have := World.ownsRow.cells (g := g) hown rfl j (.int .u8 x.toNat) (by simp [Pk.yc, hx]; rfl)
    exact this
  have hfz := (Pk.Chg.refl (fun k => k = g) w).drew.trans (freeze_chg w.drew g l.length) fun i _ e => e
  have hG : Box (Pk.Chg (fun k => (Value.slice (some ⟨g, 0, none⟩) l.length cap).ownBlock = some k) w (w.drew.freeze ⟨g, 0, none⟩ l.length)) := ⟨hfz.mono fun i _ e => by rw [e]; rfl⟩
  clear hfz htake hcs hg hown hk hk2 h hcm hnc
  go_enter Tryz.func39, Tryz.ntmps39
  go_wp2_with fail
  go_region
  all_goals (go_wp2_with fail; go_ret; exact ⟨rfl, hG.out⟩)
end Go.Proofs.YtdjppgmaokcgiaaGreatDoor.Nt

namespace Go.Proofs.YtdjppgmaokcgiaaGreatDoor.Nt
open Go Go.RowKit

/-- A slice of signatures. -/
structure SigsAt (w : World) (v : Value) (sg : List (ByteArray × ByteArray)) : Prop where
  ex : ∃ (a : Option Addr) (cap : Nat), v = .slice a sg.length cap ∧ (0 < sg.length → ∃ blk off, a = some ⟨blk, off, none⟩ ∧ blk < w.heap.size ∧ ∀ i, i < sg.length → w.cell? ⟨blk, off + i * 2, none⟩ = some (.string (sg.getD i default).1) ∧ w.cell? ⟨blk, off + i * 2 + 1, none⟩ = some (.string (sg.getD i default).2))
theorem SigsAt.here {w w' : World} {v : Value} {sg : List (ByteArray × ByteArray)} (h : SigsAt w v sg) (hb : Below w.heap.size w w') : SigsAt w' v sg := by
  obtain ⟨a, cap, rfl, hh⟩ := h.ex
  refine ⟨a, cap, rfl, fun h0 => ?_⟩
  obtain ⟨blk, off, e, hl, hc⟩ := hh h0
  exact ⟨blk, off, e, Nat.lt_of_lt_of_le hl hb.size, fun i hi => ⟨(hb.cell (p := ⟨blk, off + i * 2, none⟩) hl).trans (hc i hi).1, (hb.cell (p := ⟨blk, off + i * 2 + 1, none⟩) hl).trans (hc i hi).2⟩⟩
theorem SigsAt.at {w : World} {a : Option Addr} {n c : Nat} {sg : List (ByteArray × ByteArray)} (h : SigsAt w (.slice a n c) sg) (i : Nat) (hi : i < sg.length) : ∃ blk off, a = some ⟨blk, off, none⟩ ∧ w.cell? ⟨blk, off + i * 2, none⟩ = some (.string (sg.getD i default).1) ∧ w.cell? ⟨blk, off + i * 2 + 1, none⟩ = some (.string (sg.getD i default).2) := by
  obtain ⟨a2, c2, e, hh⟩ := h.ex
  cases e
  obtain ⟨blk, off, rfl, _, hc⟩ := hh (by omega)
  exact ⟨blk, off, rfl, (hc i hi).1, (hc i hi).2⟩
def sigC (x : ByteArray × ByteArray) : List Value := [.string x.1, .string x.2]
theorem row_here {w w' : World} {e : TypeId} {size n : Nat} {v : Value} {xs : List Value} (h : Pk.Row w e size v n xs) (hb : Below w.heap.size w w') : Pk.Row w' e size v n xs := h.kept fun k hk => hb.block k (h.lt k hk)
def sgC (sg : List (ByteArray × ByteArray)) : List Value := sg.flatMap sigC
theorem sgC_snoc (sg : List (ByteArray × ByteArray)) (x : ByteArray × ByteArray) : sgC (sg ++ [x]) = sgC sg ++ sigC x := by simp [sgC]
theorem sgC_get : ∀ (sg : List (ByteArray × ByteArray)) (i : Nat), i < sg.length → (sgC sg)[i * 2]? = some (.string (sg.getD i default).1) ∧ (sgC sg)[i * 2 + 1]? = some (.string (sg.getD i default).2)
  | [], i, h => by simp at h
  | x :: sg, 0, _ => ⟨rfl, rfl⟩
  | x :: sg, i + 1, h => by
    have := sgC_get sg i (by simpa using h)
    have e : sgC (x :: sg) = .string x.1 :: .string x.2 :: sgC sg := rfl
    rw [e, show (i + 1) * 2 = i * 2 + 1 + 1 by omega]
    simpa using this
/-- A row of signatures of one's own. -/
structure SgRow (w0 w : World) (v : Value) (sg : List (ByteArray × ByteArray)) : Prop where
  row : Pk.Row w 39 2 v sg.length (sgC sg)
  own : ∀ k, v.ownBlock = some k → w0.heap.size ≤ k
  bel : Below w0.heap.size w0 w
theorem SgRow.sigs {w0 w : World} {v : Value} {sg : List (ByteArray × ByteArray)} (h : SgRow w0 w v sg) : SigsAt w v sg := by
  obtain ⟨a, c, rfl⟩ := h.row.shape
  refine ⟨a, c, rfl, fun h0 => ?_⟩
  obtain ⟨g, c2, e, hl⟩ := h.row.some h0
  cases e
  refine ⟨g, 0, rfl, hl, fun i hi => ?_⟩
  have h1 := sgC_get sg i hi
  rw [Nat.zero_add]
  exact ⟨h.row.cells _ _ h1.1, h.row.cells _ _ h1.2⟩
theorem SgRow.here {w0 w w' : World} {v : Value} {sg : List (ByteArray × ByteArray)} (h : SgRow w0 w v sg) (hb : Below w.heap.size w w') : SgRow w0 w' v sg := ⟨row_here h.row hb, h.own, mono_bel h.bel hb (Nat.le_refl _)⟩
theorem info_sig : (Tryz.prog.info? 39).map (fun i => (i.zero, i.size, i.bytes)) = some (some (.agg #[.string ByteArray.empty, .string ByteArray.empty]), 2, 32) := by kernel_rfl
theorem SgRow.push {w0 w w2 : World} {v v' : Value} {sg : List (ByteArray × ByteArray)} {x : ByteArray × ByteArray} (h : SgRow w0 w v sg) (hp : Pk.PushedRow w 39 2 v (sg.length + 1) (sgC sg ++ sigC x) v' w2) : SgRow w0 w2 v' (sg ++ [x]) := by
  have hs := h.bel.size
  refine ⟨by rw [sgC_snoc, List.length_append]; exact hp.row, fun k hk => ?_, h.bel.trans (hp.chg.below hs fun i hi => h.own i hi)⟩
  rcases hp.place k hk with h3 | h3
  · exact h.own k h3
  · omega
theorem sgC_length (sg : List (ByteArray × ByteArray)) : (sgC sg).length = sg.length * 2 := by
  induction sg with
  | nil => rfl
  | cons x sg ih =>
    have e : sgC (x :: sg) = .string x.1 :: .string x.2 :: sgC sg := rfl
    rw [e]
    simp [ih]; omega
theorem sgC_append (a b : List (ByteArray × ByteArray)) : sgC (a ++ b) = sgC a ++ sgC b := by simp [sgC]
theorem SigsAt.cells {w : World} {blk off n c : Nat} {zs : List (ByteArray × ByteArray)} (h : SigsAt w (.slice (some ⟨blk, off, none⟩) n c) zs) (j : Nat) (u : Value) (hu : (sgC zs)[j]? = some u) : w.cell? ⟨blk, off + j, none⟩ = some u := by
  have hj : j < zs.length * 2 := by rw [← sgC_length]; exact (List.getElem?_eq_some_iff.1 hu).1
  obtain ⟨a, cc, e, hh⟩ := h.ex
  cases e
  obtain ⟨b2, o2, e2, _, hc⟩ := hh (by omega)
  cases e2
  have hi : j / 2 < zs.length := by omega
  have h1 := hc _ hi
  have h2 := sgC_get zs _ hi
  rcases Nat.mod_two_eq_zero_or_one j with h0 | h0
  · have hj2 : j / 2 * 2 = j := by omega
    rw [hj2] at h1 h2
    rw [h1.1, ← hu, h2.1]
  · have hj2 : j / 2 * 2 + 1 = j := by omega
    rw [Nat.add_assoc, hj2] at h1
    rw [hj2] at h2
    rw [h1.2, ← hu, h2.2]
theorem push_sigs (w : World) (ty : TypeId) (v : Value) (n : Nat) (xs : List Value) (h : Pk.Row w 39 2 v n xs) (a : Option Addr) (m c : Nat) (zs : List (ByteArray × ByteArray)) (hm : zs.length = m) (hz : SigsAt w (.slice a m c) zs) (hlen : (n + m) * 32 ≤ 140737488355328) :
    ∃ v' w', (Builtin.append_ #[30, 30] ty #[v, .slice a m c]).run Tryz.prog w = .ok v' w' ∧ Pk.PushedRow w 39 2 v (n + m) (xs ++ sgC zs) v' w' := by
  obtain ⟨i0, hi, hz0, hz1, hz2⟩ := info_parts info_sig
  subst hm
  obtain ⟨a2, c2, e2, hh⟩ := hz.ex
  cases e2
  by_cases h0 : 0 < zs.length
  · obtain ⟨blk, off, rfl, hb, hc⟩ := hh h0
    exact Pk.push_row (P := Tryz.prog) w 30 ty 39 i0 (.agg #[.string ByteArray.empty, .string ByteArray.empty]) 2 32 Tryz.underlying30 hi hz0 hz1 hz2 rfl (by decide) v n xs h ⟨blk, off, none⟩ zs.length c (sgC zs) (sgC_length zs)
      (fun j u hj => by
        have hadd : (⟨blk, off, none⟩ : Addr).add j = ⟨blk, off + j, none⟩ := by
          unfold Addr.add
          split
          · next h => subst h; rfl
          · rfl
        rw [hadd]
        exact hz.cells j u hj)
      (fun u hu => by
        simp only [sgC, List.mem_flatMap, sigC] at hu
        obtain ⟨y, _, hy⟩ := hu
        rcases List.mem_cons.1 hy with rfl | hy
        · rfl
        · rcases List.mem_cons.1 hy with rfl | hy
          · rfl
          · cases hy) (by unfold maxLen; omega) hlen
  · obtain rfl : zs = [] := List.length_eq_zero_iff.1 (by omega)
    obtain ⟨a3, c3, rfl⟩ := h.shape
    have hle : n ≤ c3 := by
      obtain ⟨_, ⟨h1, h2⟩ | ⟨g, cap, cur, h1, _, _, h3, _⟩⟩ := h
      · omega
      · cases h1; exact h3
    have hs : Src Tryz.prog i0.size 30 (.slice a 0 c) 0 [] w := by
      cases a with
      | none => exact Src.ofNil w Tryz.underlying30 c
      | some ad => exact Src.ofSlice w Tryz.underlying30 ad 0 c [] (by simp) (fun j u hu => by simp at hu) (fun u hu => by cases hu)
    have hr := run_append_nothing (P := Tryz.prog) w 30 30 ty 39 i0 Tryz.underlying30 hi a3 n c3 hle (.slice a 0 c) hs
    exact ⟨_, w, hr, ⟨by simpa [sgC] using h, Pk.Chg.refl _ _, fun k hk => .inl hk⟩⟩
section
variable {w : World} {o : Oper} {a : Act} {Q : Exit → Act → World → Prop}
theorem wp_pushG {K : Act → World → Prop} (s x : Operand) (ho : o.op = .call { callee := .builtin .append, args := #[s, x], argTypes := #[30, 30] }) (v : Value) (n : Nat) (xs : List Value) (hs : a.eval s = v)
    (h : Pk.Row w 39 2 v n xs) (ad : Option Addr) (m c : Nat) (zs : List (ByteArray × ByteArray)) (hx : a.eval x = .slice ad m c) (hm : zs.length = m) (hz : SigsAt w (.slice ad m c) zs) (hlen : (n + m) * 32 ≤ 140737488355328)
    (k : ∀ v' w', Pk.PushedRow w 39 2 v (n + m) (xs ++ sgC zs) v' w' → K (a.put o.dst v') w') : o.wp Tryz.prog a w K Q := by
  obtain ⟨v', w', hr, hp⟩ := push_sigs w o.type v n xs h ad m c zs hm hz hlen
  unfold Oper.wp execOp
  simp only [ho, resolve, invoke, builtin, Sem.run_bind, Sem.run_pure, Result.andThen_ok, List.map_toArray, List.map_cons, List.map_nil, hs, hx, hr]
  exact k _ _ hp
theorem wpList_pushG {ops : Array Oper} {rest : List Oper} (hgd : o.guard = none) (s x : Operand) (ho : o.op = .call { callee := .builtin .append, args := #[s, x], argTypes := #[30, 30] }) (v : Value) (n : Nat) (xs : List Value) (hs : a.eval s = v)
    (h : Pk.Row w 39 2 v n xs) (ad : Option Addr) (m c : Nat) (zs : List (ByteArray × ByteArray)) (hx : a.eval x = .slice ad m c) (hm : zs.length = m) (hz : SigsAt w (.slice ad m c) zs) (hlen : (n + m) * 32 ≤ 140737488355328)
    (k : ∀ v' w', Pk.PushedRow w 39 2 v (n + m) (xs ++ sgC zs) v' w' → wpList Tryz.prog ops Q rest (a.put o.dst v') w') : wpList Tryz.prog ops Q (o :: rest) a w :=
  wpList_plain hgd fun _ hK => wp_pushG s x ho v n xs hs h ad m c zs hx hm hz hlen fun v' w' hp => hK _ _ (k v' w' hp)
end
theorem SgRow.pushL {w0 w w2 : World} {v v' : Value} {sg zs : List (ByteArray × ByteArray)} {m : Nat} (h : SgRow w0 w v sg) (hm : zs.length = m) (hp : Pk.PushedRow w 39 2 v (sg.length + m) (sgC sg ++ sgC zs) v' w2) : SgRow w0 w2 v' (sg ++ zs) := by
  have hs := h.bel.size
  refine ⟨by rw [sgC_append, List.length_append, hm]; exact hp.row, fun k hk => ?_, h.bel.trans (hp.chg.below hs fun i hi => h.own i hi)⟩
  rcases hp.place k hk with h3 | h3
  · exact h.own k h3
  · omega
end Go.Proofs.YtdjppgmaokcgiaaGreatDoor.Nt

namespace Go.Proofs.YtdjppgmaokcgiaaGreatDoor.Nt
open Go Go.RowKit

def PC (W : World) : World → Prop := fun w' => Below W.heap.size W w'
theorem PC.st (W : World) : St (PC W) (fun w w' => Below w.heap.size w w') (PC W) := ⟨fun _ h => h, fun _ _ h hb => mono_bel h hb (Nat.le_refl _)⟩
/-- What came in, and a block of one's own beside. -/
def PK (W : World) (b : Nat) (cs : List Value) (t : TypeId) : World → Prop := fun w' => Below W.heap.size W w' ∧ Pk.Blk w' b cs t ∧ W.heap.size ≤ b
theorem PK.st (W : World) (b : Nat) (cs : List Value) (t : TypeId) : St (PC W) (fun w w' => Below w.heap.size w w') (PK W b cs t) := ⟨fun _ h => h.1, fun _ _ h hb => ⟨mono_bel h.1 hb (Nat.le_refl _), (hb.block _ h.2.1.lt).trans h.2.1, h.2.2⟩⟩
theorem PK.new {W w' : World} (h : Below W.heap.size W w') (cs : List Value) (t : TypeId) : PK W w'.heap.size cs t (w'.alloc (.cells cs.toArray t)) := ⟨mono_bel h (bel_alloc _ _) (Nat.le_refl _), Pk.Blk.new _ _ _, h.size⟩
/-- In Parse: what it answers (a cell), the checkpoint that it reads. -/
structure P2 (w0 : World) (bt : Nat) (x y z : Value) (w : World) : Prop where
  b2 : Pk.Blk w w0.heap.size [.string ⟨#[]⟩, .int .i64 0, .string ⟨#[]⟩] 23
  b6 : Pk.Blk w bt [x, y, z] 23
  bel : Below w0.heap.size w0 w
  lt : w0.heap.size < bt
def fin3 (w0 w : World) (a b c : Value) : World := ((w.setCell ⟨w0.heap.size, 0, none⟩ a).setCell ⟨w0.heap.size, 1, none⟩ b).setCell ⟨w0.heap.size, 2, none⟩ c
theorem P2.on {w0 w w' : World} {bt : Nat} {x y z : Value} (h : P2 w0 bt x y z w) (hb : Below w.heap.size w w') : P2 w0 bt x y z w' :=
  ⟨(hb.block _ h.b2.lt).trans h.b2, (hb.block _ h.b6.lt).trans h.b6, mono_bel h.bel hb (Nat.le_refl _), h.lt⟩
theorem P2.cells {w0 w : World} {bt : Nat} {x y z : Value} (h : P2 w0 bt x y z w) : w.cell? ⟨bt, 0, none⟩ = some x ∧ w.cell? ⟨bt, 1, none⟩ = some y ∧ w.cell? ⟨bt, 2, none⟩ = some z ∧
    w.cell? ⟨w0.heap.size, 0, none⟩ = some (.string ⟨#[]⟩) ∧ w.cell? ⟨w0.heap.size, 1, none⟩ = some (.int .i64 0) ∧ w.cell? ⟨w0.heap.size, 2, none⟩ = some (.string ⟨#[]⟩) ∧
    w.frozen? ⟨w0.heap.size, 0, none⟩ = false ∧ w.frozen? ⟨w0.heap.size, 1, none⟩ = false ∧ w.frozen? ⟨w0.heap.size, 2, none⟩ = false :=
  ⟨h.b6.cell 0, h.b6.cell 1, h.b6.cell 2, h.b2.cell 0, h.b2.cell 1, h.b2.cell 2, h.b2.free 0, h.b2.free 1, h.b2.free 2⟩
theorem fin3_out {w0 w : World} (hb : Pk.Blk w w0.heap.size [.string ⟨#[]⟩, .int .i64 0, .string ⟨#[]⟩] 23) (hB : Below w0.heap.size w0 w) (a b c : Value) : (fin3 w0 w a b c).cell? ⟨w0.heap.size, 0, none⟩ = some a ∧ (fin3 w0 w a b c).cell? ⟨w0.heap.size, 1, none⟩ = some b ∧ (fin3 w0 w a b c).cell? ⟨w0.heap.size, 2, none⟩ = some c ∧ Below w0.heap.size w0 (fin3 w0 w a b c) := by
  have k : Pk.Blk (fin3 w0 w a b c) w0.heap.size [a, b, c] 23 := ((hb.setCell 0 a).setCell 1 b).setCell 2 c
  exact ⟨k.cell 0, k.cell 1, k.cell 2, ((hB.setCell (p := ⟨w0.heap.size, 0, none⟩) (Nat.le_refl _) a).setCell (p := ⟨w0.heap.size, 1, none⟩) (Nat.le_refl _) b).setCell (p := ⟨w0.heap.size, 2, none⟩) (Nat.le_refl _) c⟩
theorem P2.of_sto {w0 W w : World} {bt : Nat} {x y z : Value} (hW : Below w0.heap.size w0 W) (hb2 : Pk.Blk W w0.heap.size [.string ⟨#[]⟩, .int .i64 0, .string ⟨#[]⟩] 23)
    (h : PK W bt [.string ⟨#[]⟩, .int .i64 0, .string ⟨#[]⟩] 23 w) : P2 w0 bt x y z (((w.setCell ⟨bt, 0, none⟩ x).setCell ⟨bt, 1, none⟩ y).setCell ⟨bt, 2, none⟩ z) := by
  obtain ⟨h1, h2, h3⟩ := h
  have hl := hb2.lt
  have hBW := mono_bel hW h1 (Nat.le_refl _)
  have hbb : Pk.Blk w w0.heap.size [.string ⟨#[]⟩, .int .i64 0, .string ⟨#[]⟩] 23 := (h1.block _ hl).trans hb2
  refine ⟨?_, ((h2.setCell 0 x).setCell 1 y).setCell 2 z, ((hBW.setCell (p := ⟨bt, 0, none⟩) (by simp; omega) x).setCell (p := ⟨bt, 1, none⟩) (by simp; omega) y).setCell (p := ⟨bt, 2, none⟩) (by simp; omega) z, by omega⟩
  exact ((Below.heap_setCell _ _ _ _ (by simp; omega)).trans (Below.heap_setCell _ _ _ _ (by simp; omega))).trans ((Below.heap_setCell _ _ _ _ (by simp; omega)).trans hbb)
/-- What Parse answers. -/
def prV (s : ByteArray) : Value := match pCk s.data.toList with
  | some c => .tuple #[ckV c, .int .i64 0]
  | none => .tuple #[ckV ⟨⟨#[]⟩, 0, ⟨#[]⟩⟩, .int .i64 3]
theorem prV_none {s : ByteArray} (h : pCk s.data.toList = none) : prV s = .tuple #[.agg #[.string ⟨#[]⟩, .int .i64 0, .string ⟨#[]⟩], .int .i64 3] := by unfold prV; rw [h]; rfl
theorem prV_some {s : ByteArray} {c : Ck} (h : pCk s.data.toList = some c) : prV s = .tuple #[.agg #[.string c.o, .int .i64 c.n, .string c.r], .int .i64 0] := by unfold prV; rw [h]; rfl
theorem cellsOf_get (q : List ByteArray) (N i : Nat) (h : i < q.length) : (Lib.cellsOf q N)[i]? = some (.string (q.getD i ByteArray.empty)) := by
  unfold Lib.cellsOf
  rw [List.getElem?_toArray, List.getElem?_append_left (by simpa using h), List.getElem?_map]
  simp [List.getD, h]
theorem getD_data (q : List ByteArray) (i : Nat) : (q.getD i ByteArray.empty).data.toList = (q.map (·.data.toList)).getD i [] := by
  rcases Nat.lt_or_ge i q.length with h | h
  · simp [List.getD, h]
  · simp [List.getD, h]
def pcs (s : ByteArray) : List ByteArray := Lib.splitB ⟨#[10]⟩ 0 (min 5 (s.size + 1) - 1) s
theorem ckP_B (s : ByteArray) : ckP s.data.toList = if (pcs s).length ≤ 4 then none else some ⟨(pcs s).getD 1 ByteArray.empty, numI ((pcs s).getD 2 ByteArray.empty).data.toList, unT ((pcs s).getD 3 ByteArray.empty).data.toList⟩ := by
  have h := Lib.splitB_data ⟨#[10]⟩ 0 (min 5 (s.size + 1) - 1) s
  have hp : (pcs s).map (·.data.toList) = Lib.splitK nl 0 (min 5 (s.data.toList.length + 1) - 1) s.data.toList := by rw [data_len]; exact h
  unfold ckP
  simp only [← hp, List.length_map]
  by_cases h4 : (pcs s).length ≤ 4
  · rw [if_pos h4, if_pos h4]
  · rw [if_neg h4, if_neg h4, getD_data, getD_data, ← getD_data]
theorem pcs_size (s : ByteArray) (i : Nat) : ((pcs s).getD i ByteArray.empty).size ≤ s.size := by
  have : ∀ (k : Nat) (z : ByteArray), ∀ x ∈ Lib.splitB ⟨#[10]⟩ 0 k z, x.size ≤ z.size := by
    intro k
    induction k with
    | zero => intro z x hx; rw [Lib.splitB_zero] at hx; rw [List.mem_singleton.1 hx]; exact Nat.le_refl _
    | succ k ih =>
      intro z x hx
      unfold Lib.splitB at hx
      split at hx
      · rw [List.mem_singleton.1 hx]; exact Nat.le_refl _
      · rcases List.mem_cons.1 hx with h | h
        · rw [h, ByteArray.size_extract]; omega
        · have := ih _ x h
          rw [ByteArray.size_extract] at this
          omega
  rcases Nat.lt_or_ge i (pcs s).length with h | h
  · have e : (pcs s).getD i ByteArray.empty = (pcs s)[i] := by simp [List.getD, h]
    rw [e]
    exact this _ _ _ (List.getElem_mem h)
  · have e : (pcs s).getD i ByteArray.empty = ByteArray.empty := by simp [List.getD, h]
    rw [e]; exact Nat.zero_le _
theorem pCk_cand {s : ByteArray} {c : Ck} (h : chkC gC ckL s.data.toList (some c) = pCk s.data.toList) : (gC c = true → ckT c = s → pCk s.data.toList = some c) ∧ ((gC c = false ∨ ckT c ≠ s) → pCk s.data.toList = none) := by
  rw [← h]
  unfold chkC
  refine ⟨fun h1 h2 => ?_, fun h1 => ?_⟩
  · simp only [h1, ← h2, true_and]
    rw [if_pos (show ckL c = (ckT c).data.toList from rfl)]
  · simp only
    rw [if_neg]
    rintro ⟨h2, h3⟩
    rcases h1 with h1 | h1
    · rw [h2] at h1; cases h1
    · exact h1 (ba_ext h3)
set_option maxHeartbeats 6400000 in
set_option maxRecDepth 100000 in
theorem parse_any (s : ByteArray) (B : Nat) (w : World) (hL : NL B w) (hB : B ≤ w.heap.size) (hs : s.size ≤ 1073741824) :
    Calls Tryz.prog 14 #[.string s] w fun e w' => e = .returned (prV s) ∧ Below w.heap.size w w' := by
  obtain ⟨wa, hwa⟩ : ∃ wa, w.alloc (.cells #[.string ⟨#[]⟩, .int .i64 0, .string ⟨#[]⟩] 23) = wa := ⟨_, rfl⟩
  have hBa : Below w.heap.size w wa := by rw [← hwa]; exact bel_alloc _ _
  have hSa : Pk.Blk wa w.heap.size [.string ⟨#[]⟩, .int .i64 0, .string ⟨#[]⟩] 23 := by rw [← hwa]; exact Pk.Blk.new w _ _
  obtain ⟨k, hk⟩ := (hL.here hB hBa).m
  have hSp := Tryz.strings_SplitN s ⟨#[10]⟩ 5 k wa (by omega) hk (by decide) (by decide) (by decide)
  have hcd := ckP_B s
  have hpc : pCk s.data.toList = chkC gC ckL s.data.toList (ckP s.data.toList) := rfl
  rw [hcd] at hpc
  have hps := pcs_size s
  obtain ⟨q, hq⟩ : ∃ q, pcs s = q := ⟨_, rfl⟩
  have hq' : Lib.splitB ⟨#[10]⟩ 0 (min 5 (s.size + 1) - 1) s = q := hq
  rw [hq'] at hSp
  rw [hq] at hpc hps
  obtain ⟨N, hN⟩ : ∃ N, min 5 (s.size + 1) = N := ⟨_, rfl⟩
  rw [hN] at hSp
  obtain ⟨wb, hwb⟩ : ∃ wb, wa.alloc (.cells (Lib.cellsOf q N) 9) = wb := ⟨_, rfl⟩
  have hBb : Below wa.heap.size wa wb := by rw [← hwb]; exact bel_alloc _ _
  have hSb : wb.heap[wa.heap.size]? = some (.cells (Lib.cellsOf q N) 9 (0, 0)) := by rw [← hwb]; exact heap_alloc_new wa _
  have hcell : ∀ i, i < q.length → wb.cell? ⟨wa.heap.size, i, none⟩ = some (.string (q.getD i ByteArray.empty)) := fun i hi => by rw [cell_of_row _ _ _ _ _ _ hSb]; exact cellsOf_get q N i hi
  rw [hwb] at hSp
  have hB2 := mono_bel hBa hBb (Nat.le_refl _)
  have hS2 : Pk.Blk wb w.heap.size [.string ⟨#[]⟩, .int .i64 0, .string ⟨#[]⟩] 23 := (hBb.block _ hSa.lt).trans hSa
  have hglt : wa.heap.size < wb.heap.size := (Array.getElem?_eq_some_iff.1 hSb).1
  obtain ⟨g, hg⟩ : ∃ g, wa.heap.size = g := ⟨_, rfl⟩
  rw [hg] at hSp hcell hglt
  have hLb := Box.mk (hL.here hB hB2)
  have hBs : Box (B ≤ wb.heap.size) := ⟨Nat.le_trans hB hB2.size⟩
  obtain ⟨L, hLe⟩ : ∃ L, q.length = L := ⟨_, rfl⟩
  rw [hLe] at hSp hpc hcell
  have hLN : L ≤ N := by rw [← hLe, ← hq', ← hN]; have := Lib.splitB_length_le ⟨#[10]⟩ 0 (min 5 (s.size + 1) - 1) s; omega
  have hN5 : N ≤ 5 := by omega
  replace hB2 := Box.mk hB2
  replace hS2 := Box.mk hS2
  clear hk hcd hq hq' hN hwb hBb hSb hSa hBa hL hB hg hLe
  by_cases h4 : L ≤ 4
  · rw [if_pos h4] at hpc
    have hv := Box.mk (prV_none (s := s) hpc)
    have hfin := Box.mk (fin3_out hS2.out hB2.out (.string ⟨#[]⟩) (.int .i64 0) (.string ⟨#[]⟩))
    obtain ⟨c0, c1, c2, f0, f1, f2⟩ : _ ∧ _ ∧ _ ∧ _ ∧ _ ∧ _ := ⟨hS2.out.cell 0, hS2.out.cell 1, hS2.out.cell 2, hS2.out.free 0, hS2.out.free 1, hS2.out.free 2⟩
    simp only [List.getElem?_cons_zero, List.getElem?_cons_succ] at c0 c1 c2
    clear hpc hcell hps hLb hBs hglt hLN
    go_enter Tryz.func14, Tryz.ntmps14
    go_wp2_with fail
    refine hSp.mono ?_
    clear hSp
    rintro e w1 ⟨rfl, rfl⟩
    go_wp2_with fail
    have hf := hfin.out
    unfold fin3 at hf
    obtain ⟨k0, k1, k2, hbf⟩ := hf
    clear c0 c1 c2 f0 f1 f2
    refine bodyPost_ret (v := .tuple #[.agg #[.string ⟨#[]⟩, .int .i64 0, .string ⟨#[]⟩], .int .i64 3]) (by simp [results, Tryz.results14, go_sem, k0, k1, k2]; try rfl) rfl ⟨by rw [hv.out], hbf⟩
  · rw [if_neg h4] at hpc
    have hcd := pCk_cand hpc.symm
    have h4' : 4 < L := by omega
    have p1 := hcell 1 (by omega)
    have p2 := hcell 2 (by omega)
    have p3 := hcell 3 (by omega)
    have z1 := hps 1
    have z2 := hps 2
    have z3 := hps 3
    obtain ⟨x1, hx1⟩ : ∃ x, q.getD 1 ByteArray.empty = x := ⟨_, rfl⟩
    obtain ⟨x2, hx2⟩ : ∃ x, q.getD 2 ByteArray.empty = x := ⟨_, rfl⟩
    obtain ⟨x3, hx3⟩ : ∃ x, q.getD 3 ByteArray.empty = x := ⟨_, rfl⟩
    rw [hx1] at p1 z1 hcd
    rw [hx2] at p2 z2 hcd
    rw [hx3] at p3 z3 hcd
    have hNm := Box.mk (fun w' (hw : Below wb.heap.size wb w') => number_any x2 B w' (hLb.out.here hBs.out hw) (by omega))
    have hUn := Box.mk (fun w' => nunhex_any x3 w' (by omega))
    obtain ⟨I, hI⟩ : ∃ I, numI x2.data.toList = I := ⟨_, rfl⟩
    obtain ⟨R, hR⟩ : ∃ R, unT x3.data.toList = R := ⟨_, rfl⟩
    rw [hI] at hNm hcd
    have hRz : R.size ≤ 1073741824 := by rw [← hR]; have := unT_size x3; omega
    rw [hR] at hUn hcd
    have hTx := Box.mk (fun w' (hw : Below wb.heap.size wb w') => text_any ⟨x1, I, R⟩ B w' (hLb.out.here hBs.out hw) (Nat.le_trans hBs.out hw.size) (by show x1.size ≤ _; omega) (by show R.size ≤ _; omega))
    have hcc := Box.mk (fun w' (hw : Below wb.heap.size wb w') => (⟨(hw.cell (p := ⟨g, 1, none⟩) hglt).trans p1, (hw.cell (p := ⟨g, 2, none⟩) hglt).trans p2, (hw.cell (p := ⟨g, 3, none⟩) hglt).trans p3⟩ : _ ∧ _ ∧ _))
    replace hcd := Box.mk hcd
    clear hpc hps hx1 hx2 hx3 hI hR hRz hcell z1 z2 z3 p1 p2 p3 hglt hLb hBs h4
    go_enter Tryz.func14, Tryz.ntmps14
    go_wp2_with fail
    refine hSp.mono ?_
    clear hSp
    rintro e w1 ⟨rfl, hw1⟩
    obtain rfl : wb = w1 := hw1.symm
    go_wp2_with fail
    refine region_steady (PC wb) (fun w w' => Below w.heap.size w w') rfl (dB wb) ?_
    refine anyS_calms [0, 1, 2, 3, 4, 5, 7, 8, 9] 5 rfl (fun _ => Below.refl _ _) (PC.st wb) (by kernel_rfl) (by kernel_rfl) (by kernel_rfl) ?_
    simp [nth]
    try simp only [Act.put, List.setIfInBounds_toArray, List.set_cons_succ, List.set_cons_zero]
    repeat (go_big_quiet_step (first | exact fun _ => rfl | rfl))
    refine quiet_val rfl (.string x1) (fun w' hw' => by have h3 := (hcc.out w' hw').1; go_simp) ?_
    simp only [Act.put, List.setIfInBounds_toArray, List.set_cons_succ, List.set_cons_zero]
    repeat (go_big_quiet_step (first | exact fun _ => rfl | rfl))
    refine quiet_val rfl (.string x2) (fun w' hw' => by have h3 := (hcc.out w' hw').2.1; go_simp) ?_
    simp only [Act.put, List.setIfInBounds_toArray, List.set_cons_succ, List.set_cons_zero]
    repeat (go_big_quiet_step (first | exact fun _ => rfl | rfl))
    refine quiet_val rfl (.string x3) (fun w' hw' => by have h3 := (hcc.out w' hw').2.2; go_simp) ?_
    simp only [Act.put, List.setIfInBounds_toArray, List.set_cons_succ, List.set_cons_zero]
    refine wpQuiet_nil ?_
    refine anyS_call 6 (.int .i64 I) (fun _ => Below.refl _ _) (PC.st wb) (by kernel_rfl) rfl (by kernel_rfl) (by kernel_rfl) rfl (fun w' hw' => hNm.out w' hw') (fun w' _ => by go_simp) ?_
    refine anyS_call 10 (.string R) (fun _ => Below.refl _ _) (PC.st wb) (by kernel_rfl) rfl (by kernel_rfl) (by kernel_rfl) rfl (fun w' _ => hUn.out w') (fun w' _ => by go_simp) ?_
    refine anyS_calms [11] 2 rfl (fun _ => Below.refl _ _) (PC.st wb) (by kernel_rfl) (by kernel_rfl) (by kernel_rfl) ?_
    simp [nth]
    try simp only [Act.put, List.setIfInBounds_toArray, List.set_cons_succ, List.set_cons_zero]
    repeat (go_big_quiet_step (first | exact fun _ => rfl | rfl))
    refine wpQuiet_nil ?_
    clear hNm hUn hcc
    refine anyS_forced 12 (by kernel_rfl) rfl rfl (fun wc hWc K hK => ?_)
    go_simp
    refine hK _ _ (PK wb wc.heap.size [.string ⟨#[]⟩, .int .i64 0, .string ⟨#[]⟩] 23) (PK.st _ _ _ _) (PK.new hWc _ _) ?_
    clear hK K hWc
    generalize wc.heap.size = bt
    clear wc
    refine anyS_last 13 (by kernel_rfl) rfl rfl (by kernel_rfl) (by kernel_rfl) (fun wd hWd K hK => ?_)
    have q0 : wd.cell? ⟨bt, 0, none⟩ = some (.string ⟨#[]⟩) := hWd.2.1.cell 0
    have q1 : wd.cell? ⟨bt, 1, none⟩ = some (.int .i64 0) := hWd.2.1.cell 1
    have q2 : wd.cell? ⟨bt, 2, none⟩ = some (.string ⟨#[]⟩) := hWd.2.1.cell 2
    have f0 := hWd.2.1.free 0
    have f1 := hWd.2.1.free 1
    have f2 := hWd.2.1.free 2
    have hQ := P2.of_sto (x := .string x1) (y := .int .i64 I) (z := .string R) hB2.out hS2.out hWd
    have hBq : Box (Below wb.heap.size wb (((wd.setCell ⟨bt, 0, none⟩ (.string x1)).setCell ⟨bt, 1, none⟩ (.int .i64 I)).setCell ⟨bt, 2, none⟩ (.string R))) := ⟨((hWd.1.setCell (p := ⟨bt, 0, none⟩) hWd.2.2 _).setCell (p := ⟨bt, 1, none⟩) hWd.2.2 _).setCell (p := ⟨bt, 2, none⟩) hWd.2.2 _⟩
    replace hQ := Box.mk hQ
    clear hWd
    go_simp
    refine hK _ _ ?_
    clear hK K q0 q1 q2 f0 f1 f2
    generalize (((wd.setCell ⟨bt, 0, none⟩ (.string x1)).setCell ⟨bt, 1, none⟩ (.int .i64 I)).setCell ⟨bt, 2, none⟩ (.string R)) = wq at hQ hBq ⊢
    clear wd
    obtain ⟨a0, a1, a2, c0, c1, c2, f0, f1, f2⟩ := hQ.out.cells
    have hTxq := hTx.out wq hBq.out
    clear hTx hBq
    cases hgc : gC ⟨x1, I, R⟩ with
    | false =>
      have hv := Box.mk (prV_none (s := s) (hcd.out.2 (.inl hgc)))
      rw [txtV_no hgc] at hTxq
      unfold ckV at hTxq
      simp only at hTxq
      clear hcd hgc
      go_wp2_with fail
      refine hTxq.mono ?_
      clear hTxq a0 a1 a2 c0 c1 c2 f0 f1 f2
      rintro e w5 ⟨rfl, hb5⟩
      replace hQ := Box.mk (hQ.out.on hb5)
      obtain ⟨a0, a1, a2, c0, c1, c2, f0, f1, f2⟩ := hQ.out.cells
      clear hb5
      go_wp2_with fail
      have hf := fin3_out hQ.out.b2 hQ.out.bel (.string ⟨#[]⟩) (.int .i64 0) (.string ⟨#[]⟩)
      unfold fin3 at hf
      obtain ⟨k0, k1, k2, hbf⟩ := hf
      clear c0 c1 c2 f0 f1 f2 a0 a1 a2
      refine bodyPost_ret (v := .tuple #[.agg #[.string ⟨#[]⟩, .int .i64 0, .string ⟨#[]⟩], .int .i64 3]) (by simp [results, Tryz.results14, go_sem, k0, k1, k2]; try rfl) rfl ⟨by rw [hv.out], hbf⟩
    | true =>
      rw [txtV_yes hgc] at hTxq
      unfold ckV at hTxq
      simp only at hTxq
      obtain ⟨T, hT⟩ : ∃ T, ckT ⟨x1, I, R⟩ = T := ⟨_, rfl⟩
      rw [hT] at hTxq
      have hqs := tl_eq T s
      by_cases he : T = s
      · have hv := Box.mk (prV_some (s := s) (hcd.out.1 hgc (by rw [hT, he])))
        simp only at hv
        have hq2 : (T.toList != s.toList) = false := by rw [bne, hqs, decide_eq_true he]; rfl
        rw [decide_eq_true he] at hqs
        clear hcd hgc hT he
        go_wp2_with fail
        refine hTxq.mono ?_
        clear hTxq a0 a1 a2 c0 c1 c2 f0 f1 f2
        rintro e w5 ⟨rfl, hb5⟩
        replace hQ := Box.mk (hQ.out.on hb5)
        obtain ⟨a0, a1, a2, c0, c1, c2, f0, f1, f2⟩ := hQ.out.cells
        clear hb5
        go_wp2_with fail
        have hf := fin3_out hQ.out.b2 hQ.out.bel (.string x1) (.int .i64 I) (.string R)
        unfold fin3 at hf
        obtain ⟨k0, k1, k2, hbf⟩ := hf
        clear c0 c1 c2 f0 f1 f2 a0 a1 a2
        refine bodyPost_ret (v := .tuple #[.agg #[.string x1, .int .i64 I, .string R], .int .i64 0]) (by simp [results, Tryz.results14, go_sem, k0, k1, k2]; try rfl) rfl ⟨by rw [hv.out], hbf⟩
      · have hv := Box.mk (prV_none (s := s) (hcd.out.2 (.inr (by rw [hT]; exact he))))
        have hq2 : (T.toList != s.toList) = true := by rw [bne, hqs, decide_eq_false he]; rfl
        rw [decide_eq_false he] at hqs
        clear hcd hgc hT he
        go_wp2_with fail
        refine hTxq.mono ?_
        clear hTxq a0 a1 a2 c0 c1 c2 f0 f1 f2
        rintro e w5 ⟨rfl, hb5⟩
        replace hQ := Box.mk (hQ.out.on hb5)
        obtain ⟨a0, a1, a2, c0, c1, c2, f0, f1, f2⟩ := hQ.out.cells
        clear hb5
        go_wp2_with fail
        have hf := fin3_out hQ.out.b2 hQ.out.bel (.string ⟨#[]⟩) (.int .i64 0) (.string ⟨#[]⟩)
        unfold fin3 at hf
        obtain ⟨k0, k1, k2, hbf⟩ := hf
        clear c0 c1 c2 f0 f1 f2 a0 a1 a2
        refine bodyPost_ret (v := .tuple #[.agg #[.string ⟨#[]⟩, .int .i64 0, .string ⟨#[]⟩], .int .i64 3]) (by simp [results, Tryz.results14, go_sem, k0, k1, k2]; try rfl) rfl ⟨by rw [hv.out], hbf⟩
/-! The document's. -/
theorem ckD_T (s : ByteArray) : ckD s.data.toList = if lnB s = true ∧ (lnT s).length = 4 ∧ unB ((lnT s).getD 3 ByteArray.empty).data.toList = true then some ⟨(lnT s).getD 1 ByteArray.empty, szI ((lnT s).getD 2 ByteArray.empty).data.toList, unT ((lnT s).getD 3 ByteArray.empty).data.toList⟩ else none := by
  have hg : ∀ i, ((lnT s).getD i ByteArray.empty).data.toList = (lnL s.data.toList).1.getD i [] := fun i => by
    rw [getD_data]
    congr 1
    unfold lnT
    rw [List.map_map]
    have : ((fun x : ByteArray => x.data.toList) ∘ bT) = id := rfl
    rw [this, List.map_id]
  have hl : (lnT s).length = (lnL s.data.toList).1.length := by unfold lnT; rw [List.length_map]
  have hb : lnB s = true ↔ (lnL s.data.toList).2 = [] := by unfold lnB; simp
  unfold ckD
  simp only [hg, hl, hb]
  by_cases h : (lnL s.data.toList).2 = [] ∧ (lnL s.data.toList).1.length = 4 ∧ unB ((lnL s.data.toList).1.getD 3 []) = true
  · rw [if_pos h, if_pos h]
    have : (⟨((lnL s.data.toList).1.getD 1 []).toArray⟩ : ByteArray) = (lnT s).getD 1 ByteArray.empty := ba_ext (by rw [hg])
    rw [this]
  · rw [if_neg h, if_neg h]
theorem lnT_size (s : ByteArray) (i : Nat) : ((lnT s).getD i ByteArray.empty).size ≤ s.size := by
  have h1 := lnL_join s.data.toList
  have h2 : ∀ (ls : List (List UInt8)), ∀ a ∈ ls, a.length ≤ (jn ls).length := by
    intro ls
    induction ls with
    | nil => intro a h; cases h
    | cons b ls ih =>
      intro a h
      rw [jn_cons]
      rcases List.mem_cons.1 h with h | h
      · rw [h]; simp
      · have := ih a h; simp; omega
  rcases Nat.lt_or_ge i (lnT s).length with h | h
  · have e : (lnT s).getD i ByteArray.empty = (lnT s)[i] := by simp [List.getD, h]
    have hm : ((lnT s)[i]).data.toList ∈ (lnL s.data.toList).1 := by
      have := List.getElem_mem h
      unfold lnT at this ⊢
      obtain ⟨a, ha, hb⟩ := List.mem_map.1 this
      rw [← hb]; exact ha
    have h3 := h2 _ _ hm
    have h4 := congrArg List.length h1
    rw [List.length_append, data_len] at h4
    rw [e, ← data_len]; omega
  · have e : (lnT s).getD i ByteArray.empty = ByteArray.empty := by simp [List.getD, h]
    rw [e]; exact Nat.zero_le _
theorem lnT_length (s : ByteArray) : (lnT s).length ≤ s.size := by
  have h1 := lnL_join s.data.toList
  have h2 : ∀ (ls : List (List UInt8)), ls.length ≤ (jn ls).length := by
    intro ls
    induction ls with
    | nil => exact Nat.zero_le _
    | cons b ls ih => rw [jn_cons]; simp; omega
  have h3 := h2 (lnL s.data.toList).1
  have h4 := congrArg List.length h1
  rw [List.length_append, data_len] at h4
  unfold lnT
  rw [List.length_map]; omega
set_option maxHeartbeats 6400000 in
set_option maxRecDepth 100000 in
theorem dparse_any (s : ByteArray) (B : Nat) (w : World) (hL : NL B w) (hB : B ≤ w.heap.size) (hs : s.size ≤ 1073741824) :
    Calls Tryz.prog 29 #[.string s] w fun e w' => e = .returned (prV s) ∧ Below w.heap.size w w' := by
  obtain ⟨wa, hwa⟩ : ∃ wa, w.alloc (.cells #[.string ⟨#[]⟩, .int .i64 0, .string ⟨#[]⟩] 23) = wa := ⟨_, rfl⟩
  have hBa : Below w.heap.size w wa := by rw [← hwa]; exact bel_alloc _ _
  have hSa : Pk.Blk wa w.heap.size [.string ⟨#[]⟩, .int .i64 0, .string ⟨#[]⟩] 23 := by rw [← hwa]; exact Pk.Blk.new w _ _
  have hLn := lines_any s wa hs
  have hcd := ckD_T s
  have hpc := pCk_D s.data.toList
  rw [hcd] at hpc
  have hps := lnT_size s
  have hpl := lnT_length s
  obtain ⟨q, hq⟩ : ∃ q, lnT s = q := ⟨_, rfl⟩
  obtain ⟨ok, hok⟩ : ∃ b, lnB s = b := ⟨_, rfl⟩
  rw [hq, hok] at hpc
  rw [hq] at hps hpl
  have hLn2 : Calls Tryz.prog 46 #[.string s] wa fun e wb => ∃ (a : Option Addr) (c : Nat), e = .returned (.tuple #[.slice a q.length c, .bool ok]) ∧ Box (PartsAt wb (.slice a q.length c) q) ∧ Box (Below wa.heap.size wa wb) := hLn.mono fun e wb h => by
    obtain ⟨⟨v, h1, h2⟩, h3⟩ := h
    rw [hq] at h2
    rw [hok] at h1
    obtain ⟨a, c, rfl⟩ := h2.shape
    exact ⟨a, c, h1, ⟨h2.parts⟩, ⟨h3⟩⟩
  clear hLn hcd
  obtain ⟨L, hLe⟩ : ∃ L, q.length = L := ⟨_, rfl⟩
  rw [hLe] at hLn2 hpc hpl
  replace hLe := Box.mk hLe
  replace hBa := Box.mk hBa
  replace hSa := Box.mk hSa
  have hL' := Box.mk hL
  have hB' := Box.mk hB
  clear hL hB hq hok
  go_enter Tryz.func29, Tryz.ntmps29
  go_wp2_with fail
  refine hLn2.mono ?_
  clear hLn2 hwa
  rintro e wb ⟨ga, gc, rfl, hP, hBb⟩
  have hB2 := Box.mk (mono_bel hBa.out hBb.out (Nat.le_refl _))
  have hS2 : Box (Pk.Blk wb w.heap.size [.string ⟨#[]⟩, .int .i64 0, .string ⟨#[]⟩] 23) := ⟨(hBb.out.block _ hSa.out.lt).trans hSa.out⟩
  have hfin := Box.mk (fin3_out hS2.out hB2.out (.string ⟨#[]⟩) (.int .i64 0) (.string ⟨#[]⟩))
  have hLb := Box.mk (hL'.out.here hB'.out hB2.out)
  have hBs : Box (B ≤ wb.heap.size) := ⟨Nat.le_trans hB'.out hB2.out.size⟩
  clear hBb hSa hBa hL' hB'
  by_cases hcond : ok = true ∧ L = 4
  · obtain ⟨rfl, rfl⟩ := hcond
    obtain ⟨ga2, gc2, e2, hcl⟩ := hP.out.ex
    rw [hLe.out] at e2 hcl
    cases e2
    obtain ⟨g, off, rfl, hglt, hcell⟩ := hcl (by omega)
    have p1 := hcell 1 (by omega)
    have p2 := hcell 2 (by omega)
    have p3 := hcell 3 (by omega)
    have z1 := hps 1
    have z2 := hps 2
    have z3 := hps 3
    obtain ⟨x1, hx1⟩ : ∃ x, q.getD 1 ByteArray.empty = x := ⟨_, rfl⟩
    obtain ⟨x2, hx2⟩ : ∃ x, q.getD 2 ByteArray.empty = x := ⟨_, rfl⟩
    obtain ⟨x3, hx3⟩ : ∃ x, q.getD 3 ByteArray.empty = x := ⟨_, rfl⟩
    rw [hx1] at p1 z1 hpc
    rw [hx2] at p2 z2 hpc
    rw [hx3] at p3 z3 hpc
    have hUn := runhex_any x3 wb (by omega)
    have hNm := Box.mk (fun w' (hw : Below wb.heap.size wb w') => size_any x2 B w' (hLb.out.here hBs.out hw) (by omega))
    obtain ⟨I, hI⟩ : ∃ I, szI x2.data.toList = I := ⟨_, rfl⟩
    obtain ⟨R, hR⟩ : ∃ R, unT x3.data.toList = R := ⟨_, rfl⟩
    obtain ⟨is, hIs⟩ : ∃ b, unB x3.data.toList = b := ⟨_, rfl⟩
    rw [hI] at hNm hpc
    have hRz : R.size ≤ 1073741824 := by rw [← hR]; have := unT_size x3; omega
    rw [hR, hIs] at hUn hpc
    have hTx := Box.mk (fun w' (hw : Below wb.heap.size wb w') => dtext_any ⟨x1, I, R⟩ B w' (hLb.out.here hBs.out hw) (Nat.le_trans hBs.out hw.size) (by show x1.size ≤ _; omega) (by show R.size ≤ _; omega))
    have hcc := Box.mk (fun w' (hw : Below wb.heap.size wb w') => (⟨(hw.cell (p := ⟨g, off + 1, none⟩) hglt).trans p1, (hw.cell (p := ⟨g, off + 2, none⟩) hglt).trans p2⟩ : _ ∧ _))
    clear hps hx1 hx2 hx3 hI hR hIs hRz hcell z1 z2 z3 p1 p2 hglt hLb hBs hcl hfin hP hLe hpl
    go_wp2_with fail
    refine hUn.mono ?_
    clear hUn p3
    rintro e we ⟨rfl, hbe⟩
    replace hbe := Box.mk hbe
    have hB3 := Box.mk (mono_bel hB2.out hbe.out (Nat.le_refl _))
    have hS3 : Box (Pk.Blk we w.heap.size [.string ⟨#[]⟩, .int .i64 0, .string ⟨#[]⟩] 23) := ⟨(hbe.out.block _ hS2.out.lt).trans hS2.out⟩
    clear hB2 hS2
    go_wp2_with fail
    refine region_steady (PC we) (fun w w' => Below w.heap.size w w') rfl (dB we) ?_
    refine anyS_calms [0, 1, 2, 3, 4, 5, 7] 4 rfl (fun _ => Below.refl _ _) (PC.st we) (by kernel_rfl) (by kernel_rfl) (by kernel_rfl) ?_
    simp [nth]
    try simp only [Act.put, List.setIfInBounds_toArray, List.set_cons_succ, List.set_cons_zero]
    repeat (go_big_quiet_step (first | exact fun _ => rfl | rfl))
    refine quiet_val rfl (.string x1) (fun w' hw' => by have h3 := (hcc.out w' (mono_bel hbe.out hw' (Nat.le_refl _))).1; go_simp) ?_
    simp only [Act.put, List.setIfInBounds_toArray, List.set_cons_succ, List.set_cons_zero]
    repeat (go_big_quiet_step (first | exact fun _ => rfl | rfl))
    refine quiet_val rfl (.string x2) (fun w' hw' => by have h3 := (hcc.out w' (mono_bel hbe.out hw' (Nat.le_refl _))).2; go_simp) ?_
    simp only [Act.put, List.setIfInBounds_toArray, List.set_cons_succ, List.set_cons_zero]
    repeat (go_big_quiet_step (first | exact fun _ => rfl | rfl))
    refine wpQuiet_nil ?_
    refine anyS_call 6 (.int .i64 I) (fun _ => Below.refl _ _) (PC.st we) (by kernel_rfl) rfl (by kernel_rfl) (by kernel_rfl) rfl (fun w' hw' => hNm.out w' (mono_bel hbe.out hw' (Nat.le_refl _))) (fun w' _ => by go_simp) ?_
    refine anyS_calms [8] 2 rfl (fun _ => Below.refl _ _) (PC.st we) (by kernel_rfl) (by kernel_rfl) (by kernel_rfl) ?_
    simp [nth]
    try simp only [Act.put, List.setIfInBounds_toArray, List.set_cons_succ, List.set_cons_zero]
    repeat (go_big_quiet_step (first | exact fun _ => rfl | rfl))
    refine wpQuiet_nil ?_
    clear hNm hcc
    refine anyS_forced 9 (by kernel_rfl) rfl rfl (fun wc hWc K hK => ?_)
    go_simp
    refine hK _ _ (PK we wc.heap.size [.string ⟨#[]⟩, .int .i64 0, .string ⟨#[]⟩] 23) (PK.st _ _ _ _) (PK.new hWc _ _) ?_
    clear hK K hWc
    generalize wc.heap.size = bt
    clear wc
    refine anyS_last 10 (by kernel_rfl) rfl rfl (by kernel_rfl) (by kernel_rfl) (fun wd hWd K hK => ?_)
    have q0 : wd.cell? ⟨bt, 0, none⟩ = some (.string ⟨#[]⟩) := hWd.2.1.cell 0
    have q1 : wd.cell? ⟨bt, 1, none⟩ = some (.int .i64 0) := hWd.2.1.cell 1
    have q2 : wd.cell? ⟨bt, 2, none⟩ = some (.string ⟨#[]⟩) := hWd.2.1.cell 2
    have f0 := hWd.2.1.free 0
    have f1 := hWd.2.1.free 1
    have f2 := hWd.2.1.free 2
    have hQ := P2.of_sto (x := .string x1) (y := .int .i64 I) (z := .string R) hB3.out hS3.out hWd
    have hBq : Box (Below we.heap.size we (((wd.setCell ⟨bt, 0, none⟩ (.string x1)).setCell ⟨bt, 1, none⟩ (.int .i64 I)).setCell ⟨bt, 2, none⟩ (.string R))) := ⟨((hWd.1.setCell (p := ⟨bt, 0, none⟩) hWd.2.2 _).setCell (p := ⟨bt, 1, none⟩) hWd.2.2 _).setCell (p := ⟨bt, 2, none⟩) hWd.2.2 _⟩
    replace hQ := Box.mk hQ
    clear hWd
    go_simp
    refine hK _ _ ?_
    clear hK K q0 q1 q2 f0 f1 f2
    generalize (((wd.setCell ⟨bt, 0, none⟩ (.string x1)).setCell ⟨bt, 1, none⟩ (.int .i64 I)).setCell ⟨bt, 2, none⟩ (.string R)) = wq at hQ hBq ⊢
    clear wd
    obtain ⟨a0, a1, a2, c0, c1, c2, f0, f1, f2⟩ := hQ.out.cells
    have hTxq := hTx.out wq (mono_bel hbe.out hBq.out (Nat.le_refl _))
    clear hTx hBq
    cases is with
    | false =>
      rw [if_neg (fun h => by cases h.2.2)] at hpc
      have hv := Box.mk (prV_none (s := s) hpc)
      have hTy : Calls Tryz.prog 5 #[.agg #[.string x1, .int .i64 I, .string R]] wq fun e w' => (∃ (T : ByteArray) (E : Int), e = .returned (.tuple #[.string T, .int .i64 E])) ∧ Below wq.heap.size wq w' := hTxq.mono fun e w' h => ⟨⟨_, _, h.1⟩, h.2⟩
      clear hTxq hpc
      go_wp2_with fail
      refine hTy.mono ?_
      clear hTy a0 a1 a2 c0 c1 c2 f0 f1 f2
      rintro e w5 ⟨⟨T, E, rfl⟩, hb5⟩
      replace hQ := Box.mk (hQ.out.on hb5)
      obtain ⟨a0, a1, a2, c0, c1, c2, f0, f1, f2⟩ := hQ.out.cells
      clear hb5
      go_wp2_with fail
      have hf := fin3_out hQ.out.b2 hQ.out.bel (.string ⟨#[]⟩) (.int .i64 0) (.string ⟨#[]⟩)
      unfold fin3 at hf
      obtain ⟨k0, k1, k2, hbf⟩ := hf
      clear c0 c1 c2 f0 f1 f2 a0 a1 a2
      refine bodyPost_ret (v := .tuple #[.agg #[.string ⟨#[]⟩, .int .i64 0, .string ⟨#[]⟩], .int .i64 3]) (by simp [results, Tryz.results29, go_sem, k0, k1, k2]; try rfl) rfl ⟨by rw [hv.out], hbf⟩
    | true =>
      rw [if_pos (by simp)] at hpc
      have hcd := Box.mk (pCk_cand hpc.symm)
      clear hpc
      cases hgc : gC ⟨x1, I, R⟩ with
      | false =>
        have hv := Box.mk (prV_none (s := s) (hcd.out.2 (.inl hgc)))
        rw [txtV_no hgc] at hTxq
        unfold ckV at hTxq
        simp only at hTxq
        clear hcd hgc
        go_wp2_with fail
        refine hTxq.mono ?_
        clear hTxq a0 a1 a2 c0 c1 c2 f0 f1 f2
        rintro e w5 ⟨rfl, hb5⟩
        replace hQ := Box.mk (hQ.out.on hb5)
        obtain ⟨a0, a1, a2, c0, c1, c2, f0, f1, f2⟩ := hQ.out.cells
        clear hb5
        go_wp2_with fail
        have hf := fin3_out hQ.out.b2 hQ.out.bel (.string ⟨#[]⟩) (.int .i64 0) (.string ⟨#[]⟩)
        unfold fin3 at hf
        obtain ⟨k0, k1, k2, hbf⟩ := hf
        clear c0 c1 c2 f0 f1 f2 a0 a1 a2
        refine bodyPost_ret (v := .tuple #[.agg #[.string ⟨#[]⟩, .int .i64 0, .string ⟨#[]⟩], .int .i64 3]) (by simp [results, Tryz.results29, go_sem, k0, k1, k2]; try rfl) rfl ⟨by rw [hv.out], hbf⟩
      | true =>
        rw [txtV_yes hgc] at hTxq
        unfold ckV at hTxq
        simp only at hTxq
        obtain ⟨T, hT⟩ : ∃ T, ckT ⟨x1, I, R⟩ = T := ⟨_, rfl⟩
        rw [hT] at hTxq
        have hqs := tl_eq T s
        by_cases he : T = s
        · have hv := Box.mk (prV_some (s := s) (hcd.out.1 hgc (by rw [hT, he])))
          simp only at hv
          have hq2 : (T.toList != s.toList) = false := by rw [bne, hqs, decide_eq_true he]; rfl
          rw [decide_eq_true he] at hqs
          clear hcd hgc hT he
          go_wp2_with fail
          refine hTxq.mono ?_
          clear hTxq a0 a1 a2 c0 c1 c2 f0 f1 f2
          rintro e w5 ⟨rfl, hb5⟩
          replace hQ := Box.mk (hQ.out.on hb5)
          obtain ⟨a0, a1, a2, c0, c1, c2, f0, f1, f2⟩ := hQ.out.cells
          clear hb5
          go_wp2_with fail
          have hf := fin3_out hQ.out.b2 hQ.out.bel (.string x1) (.int .i64 I) (.string R)
          unfold fin3 at hf
          obtain ⟨k0, k1, k2, hbf⟩ := hf
          clear c0 c1 c2 f0 f1 f2 a0 a1 a2
          refine bodyPost_ret (v := .tuple #[.agg #[.string x1, .int .i64 I, .string R], .int .i64 0]) (by simp [results, Tryz.results29, go_sem, k0, k1, k2]; try rfl) rfl ⟨by rw [hv.out], hbf⟩
        · have hv := Box.mk (prV_none (s := s) (hcd.out.2 (.inr (by rw [hT]; exact he))))
          have hq2 : (T.toList != s.toList) = true := by rw [bne, hqs, decide_eq_false he]; rfl
          rw [decide_eq_false he] at hqs
          clear hcd hgc hT he
          go_wp2_with fail
          refine hTxq.mono ?_
          clear hTxq a0 a1 a2 c0 c1 c2 f0 f1 f2
          rintro e w5 ⟨rfl, hb5⟩
          replace hQ := Box.mk (hQ.out.on hb5)
          obtain ⟨a0, a1, a2, c0, c1, c2, f0, f1, f2⟩ := hQ.out.cells
          clear hb5
          go_wp2_with fail
          have hf := fin3_out hQ.out.b2 hQ.out.bel (.string ⟨#[]⟩) (.int .i64 0) (.string ⟨#[]⟩)
          unfold fin3 at hf
          obtain ⟨k0, k1, k2, hbf⟩ := hf
          clear c0 c1 c2 f0 f1 f2 a0 a1 a2
          refine bodyPost_ret (v := .tuple #[.agg #[.string ⟨#[]⟩, .int .i64 0, .string ⟨#[]⟩], .int .i64 3]) (by simp [results, Tryz.results29, go_sem, k0, k1, k2]; try rfl) rfl ⟨by rw [hv.out], hbf⟩
  · have hcn : ¬ (ok = true ∧ L = 4 ∧ unB (q.getD 3 ByteArray.empty).data.toList = true) := fun h => hcond ⟨h.1, h.2.1⟩
    rw [if_neg hcn] at hpc
    have hv := Box.mk (prV_none (s := s) hpc)
    obtain ⟨c0, c1, c2, f0, f1, f2⟩ : _ ∧ _ ∧ _ ∧ _ ∧ _ ∧ _ := ⟨hS2.out.cell 0, hS2.out.cell 1, hS2.out.cell 2, hS2.out.free 0, hS2.out.free 1, hS2.out.free 2⟩
    simp only [List.getElem?_cons_zero, List.getElem?_cons_succ] at c0 c1 c2
    clear hpc hcn hps hLb hBs hP
    cases ok with
    | false =>
      clear hcond
      go_wp2_with fail
      have hf := hfin.out
      unfold fin3 at hf
      obtain ⟨k0, k1, k2, hbf⟩ := hf
      clear c0 c1 c2 f0 f1 f2
      refine bodyPost_ret (v := .tuple #[.agg #[.string ⟨#[]⟩, .int .i64 0, .string ⟨#[]⟩], .int .i64 3]) (by simp [results, Tryz.results29, go_sem, k0, k1, k2]; try rfl) rfl ⟨by rw [hv.out], hbf⟩
    | true =>
      have h4 : ((L : Int) != 4) = true := by
        have : L ≠ 4 := fun e => hcond ⟨rfl, e⟩
        simpa using (by omega : (L : Int) ≠ 4)
      clear hcond
      go_wp2_with fail
      have hf := hfin.out
      unfold fin3 at hf
      obtain ⟨k0, k1, k2, hbf⟩ := hf
      clear c0 c1 c2 f0 f1 f2
      refine bodyPost_ret (v := .tuple #[.agg #[.string ⟨#[]⟩, .int .i64 0, .string ⟨#[]⟩], .int .i64 3]) (by simp [results, Tryz.results29, go_sem, k0, k1, k2]; try rfl) rfl ⟨by rw [hv.out], hbf⟩
end Go.Proofs.YtdjppgmaokcgiaaGreatDoor.Nt

namespace Go.Proofs.YtdjppgmaokcgiaaGreatDoor.Nt
open Go Go.RowKit

/-- The place of the first that p takes; the length: there is none. -/
def fst {α : Type} (p : α → Bool) : List α → Nat
  | [] => 0
  | x :: r => if p x = true then 0 else fst p r + 1
theorem fst_le {α : Type} (p : α → Bool) : ∀ l, fst p l ≤ l.length
  | [] => Nat.le_refl _
  | x :: r => by rw [fst]; have := fst_le p r; split <;> simp <;> omega
theorem fst_at {α : Type} [Inhabited α] (p : α → Bool) : ∀ (l : List α) (i : Nat), i ≤ fst p l → ((i < l.length ∧ p (l.getD i default) = false) ↔ i < fst p l)
  | [], i, h => by simp [fst]
  | x :: l, i, h => by
    rw [fst] at h ⊢
    by_cases ha : p x = true
    · rw [if_pos ha] at h ⊢
      obtain rfl : i = 0 := by omega
      simp [ha]
    · rw [if_neg ha] at h ⊢
      cases i with
      | zero => simp [ha]
      | succ i =>
        have := fst_at p l i (by omega)
        simp only [List.length_cons, Nat.succ_lt_succ_iff, List.getD_cons_succ]
        exact this
theorem fst_any {α : Type} (p : α → Bool) : ∀ l : List α, l.any p = decide (fst p l < l.length)
  | [] => rfl
  | x :: l => by
    rw [List.any_cons, fst, fst_any p l]
    by_cases ha : p x = true
    · rw [if_pos ha, ha]; simp
    · rw [if_neg ha, Bool.eq_false_iff.2 ha, Bool.false_or]; simp
theorem atI_fst (id : ByteArray) : ∀ sg : List (ByteArray × ByteArray), atI id sg = fst (fun x => decide (x.1 = id)) sg
  | [] => rfl
  | x :: r => by
    rw [atI, fst, atI_fst id r]
    by_cases h : x.1 = id <;> simp [h]
def idxI {α : Type} (p : α → Bool) (l : List α) : Int := if fst p l < l.length then (fst p l : Int) else -1
set_option maxHeartbeats 1600000 in
set_option maxRecDepth 100000 in
theorem badsig_any (x1 x2 : ByteArray) (w : World) (h2 : x2.size ≤ 140737488355328) :
    Calls Tryz.prog 59 #[.agg #[.string x1, .string x2]] w fun e w' => e = .returned (.bool (!gS (x1, x2))) ∧ Below w.heap.size w w' := by
  have hb := Box.mk (bel_alloc w (.cells #[.string x1, .string x2] 39))
  have hg : gS (x1, x2) = (decide (x1.size = 32) && decide (1 ≤ x2.size) && decide (x2.size ≤ 1024)) := rfl
  by_cases k1 : x1.size = 32
  · have d1 : ((x1.size : Int) != 32) = false := by rw [k1]; rfl
    by_cases k2 : 1 ≤ x2.size
    · by_cases k3 : x2.size ≤ 1024
      · have hv : Box ((!gS (x1, x2)) = false) := ⟨by rw [hg, decide_eq_true k1, decide_eq_true k2, decide_eq_true k3]; rfl⟩
        clear hg k1
        go_enter Tryz.func59, Tryz.ntmps59
        go_wp2_with fail
        go_ret
        exact ⟨ret_b (by rw [hv.out]; simp <;> omega), hb.out⟩
      · have hv : Box ((!gS (x1, x2)) = true) := ⟨by rw [hg, decide_eq_true k1, decide_eq_true k2, decide_eq_false k3]; rfl⟩
        clear hg k1
        go_enter Tryz.func59, Tryz.ntmps59
        go_wp2_with fail
        go_ret
        exact ⟨ret_b (by rw [hv.out]; simp <;> omega), hb.out⟩
    · have hv : Box ((!gS (x1, x2)) = true) := ⟨by rw [hg, decide_eq_true k1, decide_eq_false k2]; rfl⟩
      clear hg k1
      go_enter Tryz.func59, Tryz.ntmps59
      go_wp2_with fail
      go_ret
      exact ⟨ret_b hv.out, hb.out⟩
  · have hv : Box ((!gS (x1, x2)) = true) := ⟨by rw [hg, decide_eq_false k1]; rfl⟩
    have d1 : ((x1.size : Int) != 32) = true := by simpa using (by omega : (x1.size : Int) ≠ 32)
    clear hg k1
    go_enter Tryz.func59, Tryz.ntmps59
    go_wp2_with fail
    go_ret
    exact ⟨ret_b hv.out, hb.out⟩
set_option maxHeartbeats 3200000 in
set_option maxRecDepth 100000 in
theorem index_bad0 (P : ByteArray × ByteArray → Bool) (a : Option Addr) (n c : Nat) (sg : List (ByteArray × ByteArray)) (w : World) (hv : SigsAt w (.slice a n c) sg) (hn : sg.length = n) (hm : n ≤ 4611686018427387903)
    (hP : ∀ i, i < sg.length → ∀ W, Below w.heap.size w W → Calls Tryz.prog 59 #[.agg #[.string (sg.getD i default).1, .string (sg.getD i default).2]] W fun e w' => e = .returned (.bool (P (sg.getD i default))) ∧ Below W.heap.size W w') :
    Calls Tryz.prog 78 #[.slice a n c, .func (.func 59) #[] #[]] w fun e w' => e = .returned (.int .i64 (idxI P sg)) ∧ Below w.heap.size w w' := by
  have hle := fst_le P sg
  have hat := fst_at P sg
  have hix : idxI P sg = if fst P sg < sg.length then (fst P sg : Int) else -1 := rfl
  obtain ⟨X, hX⟩ : ∃ X, idxI P sg = X := ⟨_, rfl⟩
  rw [hX] at hix ⊢
  obtain ⟨k, hk⟩ : ∃ k, fst P sg = k := ⟨_, rfl⟩
  rw [hk] at hle hat hix
  rw [hn] at hle hat hix
  have hvB := Box.mk hv
  have hnB := Box.mk hn
  have hatB := Box.mk hat
  have hixB := Box.mk hix
  have hPB := Box.mk hP
  have hB0 : Box (Below w.heap.size w w) := ⟨Below.refl _ _⟩
  clear hv hn hP hX hk hat hix
  go_enter Tryz.func78, Tryz.ntmps78
  go_wp2_with fail
  go_loopw [8] (fun q wr => ∃ i : Nat, i ≤ k ∧ q = .int .i64 (i : Int) ∧ Box (Below w.heap.size w wr)) (fun q _ => n - (intOf q).toNat)
  case atStart => exact ⟨0, by omega, rfl, hB0⟩
  case round =>
    clear hB0
    obtain ⟨i, hi, rfl, hB⟩ := hrel
    by_cases hlt : i < n
    · have hig : i < sg.length := by rw [hnB.out]; exact hlt
      obtain ⟨b1, o1, rfl, k0, k1⟩ := (hvB.out.here hB.out).at i hig
      have hF := hPB.out i hig wr hB.out
      have hka := hatB.out i hi
      obtain ⟨x, hx⟩ : ∃ x, sg.getD i default = x := ⟨_, rfl⟩
      rw [hx] at k0 k1 hF hka
      obtain ⟨x1, x2⟩ := x
      simp only at k0 k1 hF
      obtain ⟨r, hr⟩ : ∃ r, P (x1, x2) = r := ⟨_, rfl⟩
      rw [hr] at hF hka
      have hii : (i : Int) < (n : Int) := by omega
      clear hx hig hr
      cases r with
      | true =>
        have hik : i = k := by
          rcases Nat.lt_or_ge i k with h | h
          · have := (hka.2 h).2; cases this
          · omega
        have hXe : X = (i : Int) := by rw [hixB.out, if_pos (by omega), hik]
        replace hXe := Box.mk hXe
        clear hka hik
        go_wp2_with fail
        refine hF.mono ?_
        clear hF
        rintro e w3 ⟨rfl, hb3⟩
        have hB3 := Box.mk (mono_bel hB.out hb3 (Nat.le_refl _))
        clear hb3 hB
        go_wp2_with fail
        go_ret
        exact ⟨ret_i hXe.out, hB3.out⟩
      | false =>
        have hik : i < k := hka.1 ⟨hlt, rfl⟩
        clear hka
        go_wp2_with fail
        refine hF.mono ?_
        clear hF
        rintro e w3 ⟨rfl, hb3⟩
        have hB3 := Box.mk (mono_bel hB.out hb3 (Nat.le_refl _))
        clear hb3 hB k0 k1
        go_wp2_with fail
        exact ⟨⟨i + 1, by omega, by go_num, hB3⟩, by simp [intOf]; omega⟩
    · have hXe : X = -1 := by rw [hixB.out, if_neg (by omega)]
      obtain rfl : i = n := by omega
      replace hXe := Box.mk hXe
      go_wp2_with fail
      go_ret
      exact ⟨ret_i hXe.out, hB.out⟩
theorem mem_getD {sg : List (ByteArray × ByteArray)} {i : Nat} (h : i < sg.length) : sg.getD i default ∈ sg := by
  rw [show sg.getD i default = sg[i] by simp [List.getD, h]]
  exact List.getElem_mem h
theorem index_bad (a : Option Addr) (n c : Nat) (sg : List (ByteArray × ByteArray)) (w : World) (hv : SigsAt w (.slice a n c) sg) (hn : sg.length = n) (hm : n ≤ 4611686018427387903) (hz : ∀ x ∈ sg, x.1.size ≤ 140737488355328 ∧ x.2.size ≤ 140737488355328) :
    Calls Tryz.prog 78 #[.slice a n c, .func (.func 59) #[] #[]] w fun e w' => e = .returned (.int .i64 (idxI (fun x => !gS x) sg)) ∧ Below w.heap.size w w' :=
  index_bad0 (fun x => !gS x) a n c sg w hv hn hm fun _ hi W _ => badsig_any _ _ W (hz _ (mem_getD hi)).2
theorem contains_bad (a : Option Addr) (n c : Nat) (sg : List (ByteArray × ByteArray)) (w : World) (hv : SigsAt w (.slice a n c) sg) (hn : sg.length = n) (hm : n ≤ 4611686018427387903) (hz : ∀ x ∈ sg, x.1.size ≤ 140737488355328 ∧ x.2.size ≤ 140737488355328) :
    Calls Tryz.prog 58 #[.slice a n c, .func (.func 59) #[] #[]] w fun e w' => e = .returned (.bool (!sg.all gS)) ∧ Below w.heap.size w w' := by
  have hF := index_bad a n c sg w hv hn hm hz
  have hr : (!sg.all gS) = decide (0 ≤ idxI (fun x => !gS x) sg) := by
    rw [show (!sg.all gS) = sg.any (fun x => !gS x) by rw [List.not_all_eq_any_not], fst_any]
    unfold idxI
    by_cases h : fst (fun x => !gS x) sg < sg.length
    · rw [if_pos h, decide_eq_true h, decide_eq_true]; omega
    · rw [if_neg h, decide_eq_false h]; rfl
  rw [hr]
  obtain ⟨X, hX⟩ : ∃ X, idxI (fun x => !gS x) sg = X := ⟨_, rfl⟩
  rw [hX] at hF ⊢
  clear hv hn hm hz hr hX
  go_enter Tryz.func58, Tryz.ntmps58
  go_wp2_with fail
  refine hF.mono ?_
  rintro e w2 ⟨rfl, hb2⟩
  replace hb2 := Box.mk hb2
  clear hF
  go_wp2_with fail
  go_ret
  exact ⟨rfl, hb2.out⟩
set_option maxHeartbeats 800000 in
set_option maxRecDepth 100000 in
theorem goodtext_any (t : ByteArray) (B : Nat) (w : World) (hL : NL B w) (hs : t.size ≤ 1073741824) :
    Calls Tryz.prog 57 #[.string t] w fun e w' => e = .returned (.bool (gT t.data.toList)) ∧ w = w' := by
  obtain ⟨k, hk⟩ := hL.m
  have hS := Tryz.strings_HasSuffix t ⟨#[10]⟩ w (by omega)
  have hP := Tryz.strings_HasPrefix t ⟨#[10]⟩ w
  have hC := Tryz.strings_Contains t ⟨#[10, 10]⟩ k w (by omega) hk
  have hg : gT t.data.toList = (Lib.hasSuffix t.data.toList nl && !Lib.hasPrefix t.data.toList nl && !Lib.contains t.data.toList nl2) := rfl
  rw [hg]
  rw [show (⟨#[10]⟩ : ByteArray).data.toList = nl from rfl] at hS hP
  rw [show (⟨#[10, 10]⟩ : ByteArray).data.toList = nl2 from rfl] at hC
  obtain ⟨x, hx⟩ : ∃ x, Lib.hasSuffix t.data.toList nl = x := ⟨_, rfl⟩
  obtain ⟨y, hy⟩ : ∃ x, Lib.hasPrefix t.data.toList nl = x := ⟨_, rfl⟩
  obtain ⟨z, hz⟩ : ∃ x, Lib.contains t.data.toList nl2 = x := ⟨_, rfl⟩
  rw [hx] at hS
  rw [hy] at hP
  rw [hz] at hC
  rw [hx, hy, hz]
  clear hg hx hy hz hk hL hs
  cases x with
  | false =>
    clear hP hC
    go_enter Tryz.func57, Tryz.ntmps57
    go_wp2_with fail
    refine hS.mono ?_
    clear hS
    rintro e w1 ⟨rfl, hw⟩
    obtain rfl : w = w1 := hw.symm
    go_wp2_with fail
    go_ret
    exact ⟨rfl, rfl⟩
  | true =>
    cases y with
    | true =>
      clear hC
      go_enter Tryz.func57, Tryz.ntmps57
      go_wp2_with fail
      refine hS.mono ?_
      clear hS
      rintro e w1 ⟨rfl, hw⟩
      obtain rfl : w = w1 := hw.symm
      go_wp2_with fail
      refine hP.mono ?_
      clear hP
      rintro e w1 ⟨rfl, hw⟩
      obtain rfl : w = w1 := hw.symm
      go_wp2_with fail
      go_ret
      exact ⟨rfl, rfl⟩
    | false =>
      go_enter Tryz.func57, Tryz.ntmps57
      go_wp2_with fail
      refine hS.mono ?_
      clear hS
      rintro e w1 ⟨rfl, hw⟩
      obtain rfl : w = w1 := hw.symm
      go_wp2_with fail
      refine hP.mono ?_
      clear hP
      rintro e w1 ⟨rfl, hw⟩
      obtain rfl : w = w1 := hw.symm
      go_wp2_with fail
      refine hC.mono ?_
      clear hC
      rintro e w1 ⟨rfl, hw⟩
      obtain rfl : w = w1 := hw.symm
      go_wp2_with fail
      go_ret
      exact ⟨by simp, rfl⟩
/-- Sizes of signatures. -/
def ZS (sg : List (ByteArray × ByteArray)) : Prop := ∀ x ∈ sg, x.1.size ≤ 1073741824 ∧ x.2.size ≤ 1073741824
set_option maxHeartbeats 1600000 in
set_option maxRecDepth 100000 in
theorem goodnote_any (t : ByteArray) (a : Option Addr) (n c : Nat) (sg : List (ByteArray × ByteArray)) (B : Nat) (w : World) (hL : NL B w) (hB : B ≤ w.heap.size) (hs : t.size ≤ 1073741824) (hv : SigsAt w (.slice a n c) sg) (hn : sg.length = n) (hm : n ≤ 1073741824) (hz : ZS sg) :
    Calls Tryz.prog 37 #[.agg #[.string t, .slice a n c]] w fun e w' => e = .returned (.bool (gN (t, sg))) ∧ Below w.heap.size w w' := by
  obtain ⟨W1, hW1⟩ : ∃ W1, w.alloc (.cells #[.string t, .slice a n c] 32) = W1 := ⟨_, rfl⟩
  have hB1 : Below w.heap.size w W1 := by rw [← hW1]; exact bel_alloc _ _
  have hS1 : Pk.Blk W1 w.heap.size [.string t, .slice a n c] 32 := by rw [← hW1]; exact Pk.Blk.new w _ _
  have s0 : W1.cell? ⟨w.heap.size, 0, none⟩ = some (.string t) := hS1.cell 0
  have s1 : W1.cell? ⟨w.heap.size, 1, none⟩ = some (.slice a n c) := hS1.cell 1
  have hT := goodtext_any t B W1 (hL.here hB hB1) hs
  have hC := contains_bad a n c sg W1 (hv.here hB1) hn (by omega) (fun x hx => ⟨by have := (hz x hx).1; omega, by have := (hz x hx).2; omega⟩)
  have hg : gN (t, sg) = (gT t.data.toList && decide (sg.length ≤ 16) && sg.all gS) := rfl
  rw [hg]
  obtain ⟨x, hx⟩ : ∃ x, gT t.data.toList = x := ⟨_, rfl⟩
  obtain ⟨y, hy⟩ : ∃ x, sg.all gS = x := ⟨_, rfl⟩
  rw [hx] at hT ⊢
  rw [hy] at hC ⊢
  rw [hn]
  replace hB1 := Box.mk hB1
  clear hg hx hy hL hB hs hv hn hz hS1
  cases x with
  | false =>
    clear hC
    go_enter Tryz.func37, Tryz.ntmps37
    go_wp2_with fail
    refine hT.mono ?_
    clear hT
    rintro e w1 ⟨rfl, rfl⟩
    go_wp2_with fail
    go_ret
    exact ⟨by simp, hB1.out⟩
  | true =>
    by_cases h16 : n ≤ 16
    · rw [decide_eq_true h16]
      go_enter Tryz.func37, Tryz.ntmps37
      go_wp2_with fail
      refine hT.mono ?_
      clear hT
      rintro e w1 ⟨rfl, rfl⟩
      go_wp2_with fail
      refine hC.mono ?_
      clear hC
      rintro e w2 ⟨rfl, hb2⟩
      have hB2 := Box.mk (mono_bel hB1.out hb2 (Nat.le_refl _))
      clear hb2 hB1
      go_wp2_with fail
      go_ret
      exact ⟨by simp, hB2.out⟩
    · rw [decide_eq_false h16]
      clear hC
      go_enter Tryz.func37, Tryz.ntmps37
      go_wp2_with fail
      refine hT.mono ?_
      clear hT
      rintro e w1 ⟨rfl, rfl⟩
      go_wp2_with fail
      go_ret
      exact ⟨by simp, hB1.out⟩
end Go.Proofs.YtdjppgmaokcgiaaGreatDoor.Nt

namespace Go.Proofs.YtdjppgmaokcgiaaGreatDoor.Nt
open Go Go.RowKit

def fmV (n : ByteArray × List (ByteArray × ByteArray)) : Value := .tuple #[.string (fmtN n), .int .i64 (fmtE n)]
theorem fmV_yes {n : ByteArray × List (ByteArray × ByteArray)} (h : gN n = true) : fmV n = .tuple #[.string ⟨(byN n).toArray⟩, .int .i64 0] := by unfold fmV fmtN fmtE; rw [if_pos h, if_pos h]
theorem fmV_no {n : ByteArray × List (ByteArray × ByteArray)} (h : gN n = false) : fmV n = .tuple #[.string ⟨#[]⟩, .int .i64 1] := by unfold fmV fmtN fmtE; rw [if_neg (by simp [h]), if_neg (by simp [h])]; rfl
theorem gN_iff {t : ByteArray} {sg : List (ByteArray × ByteArray)} : gN (t, sg) = true ↔ gT t.data.toList = true ∧ sg.length ≤ 16 ∧ ∀ x ∈ sg, x.1.size = 32 ∧ 1 ≤ x.2.size ∧ x.2.size ≤ 1024 := by
  unfold gN gS; simp [and_assoc]
/-- What stands behind the text and some of the signatures. -/
def fmL (t : ByteArray) (sg : List (ByteArray × ByteArray)) (i : Nat) : List UInt8 := t.data.toList ++ 10 :: sgL (sg.take i)
theorem fmL_zero (t : ByteArray) (sg : List (ByteArray × ByteArray)) : fmL t sg 0 = (t ++ sN).data.toList := by
  unfold fmL sgL sN; simp [jn]
def sSig : ByteArray := ⟨#[115, 105, 103, 32]⟩
def sBl : ByteArray := ⟨#[32]⟩
theorem fmL_succ (t : ByteArray) (sg : List (ByteArray × ByteArray)) (i : Nat) (h : i < sg.length) : fmL t sg (i + 1) = fmL t sg i ++ (sSig ++ hxT (sg.getD i default).1 ++ sBl ++ hxT (sg.getD i default).2 ++ sN).data.toList := by
  have e : sg.take (i + 1) = sg.take i ++ [sg.getD i default] := by
    rw [List.take_succ_eq_append_getElem h, show sg.getD i default = sg[i] by simp [List.getD, h]]
  unfold fmL sgL
  rw [e, List.map_append, jn_app]
  simp [jn, sLn, sSig, hxT, sBl, sN, lSig]
theorem fmL_all (t : ByteArray) (sg : List (ByteArray × ByteArray)) : fmL t sg sg.length = byN (t, sg) := by unfold fmL byN; rw [List.take_length]
theorem sLn_len (x : ByteArray × ByteArray) (h1 : x.1.size = 32) (h2 : x.2.size ≤ 1024) : (sLn x).length ≤ 2200 := by
  unfold sLn lSig
  simp [hexL_length]
  have e1 := data_len x.1
  have e2 := data_len x.2
  simp at e1 e2
  omega
theorem sgL_len : ∀ sg : List (ByteArray × ByteArray), (∀ x ∈ sg, x.1.size = 32 ∧ x.2.size ≤ 1024) → (sgL sg).length ≤ 2201 * sg.length
  | [], _ => by simp [sgL, jn]
  | x :: sg, h => by
    have e : sgL (x :: sg) = sLn x ++ 10 :: sgL sg := by unfold sgL; rw [List.map_cons, jn_cons]
    have h1 := sLn_len x (h x (by simp)).1 (h x (by simp)).2
    have h2 := sgL_len sg fun y hy => h y (by simp [hy])
    rw [e]
    simp only [List.length_append, List.length_cons]
    omega
theorem byN_len {t : ByteArray} {sg : List (ByteArray × ByteArray)} (h : gN (t, sg) = true) : (byN (t, sg)).length ≤ t.size + 35217 := by
  obtain ⟨_, h2, h3⟩ := gN_iff.1 h
  have h4 := sgL_len sg fun x hx => ⟨(h3 x hx).1, (h3 x hx).2.2⟩
  show (t.data.toList ++ 10 :: sgL sg).length ≤ _
  rw [List.length_append, List.length_cons, data_len]
  omega
theorem fmL_len {t : ByteArray} {sg : List (ByteArray × ByteArray)} (h : gN (t, sg) = true) (i : Nat) : (fmL t sg i).length ≤ t.size + 35217 := by
  obtain ⟨_, h2, h3⟩ := gN_iff.1 h
  have h4 := sgL_len (sg.take i) fun x hx => ⟨(h3 x (List.mem_of_mem_take hx)).1, (h3 x (List.mem_of_mem_take hx)).2.2⟩
  have h5 : (sg.take i).length ≤ 16 := by rw [List.length_take]; omega
  unfold fmL
  rw [List.length_append, List.length_cons, data_len]
  omega
/-- In Format: the builder, in memory of one's own. -/
structure FmAt (w0 w : World) (b : Nat) (v : Value) (l : List UInt8) : Prop where
  at_ : BdAt w b v l
  bb : w0.heap.size ≤ b
  bo : ∀ k, v.ownBlock = some k → w0.heap.size ≤ k
  bel : Below w0.heap.size w0 w
theorem FmAt.here {w0 w w' : World} {b : Nat} {v : Value} {l : List UInt8} (h : FmAt w0 w b v l) (hb : Below w.heap.size w w') : FmAt w0 w' b v l := by
  obtain ⟨p, hp, hk⟩ := h.at_.blk
  exact ⟨⟨⟨p, hp, (hb.block _ hk.lt).trans hk⟩, h.at_.own.kept fun k hk => hb.block k (h.at_.own.lt k hk)⟩, h.bb, h.bo, mono_bel h.bel hb (Nat.le_refl _)⟩
theorem FmAt.put {w0 w w' : World} {b : Nat} {v v' : Value} {l l' : List UInt8} (h : FmAt w0 w b v l) (hp : BdPut w b v l' v' w') : FmAt w0 w' b v' l' :=
  ⟨hp.at_, h.bb, fun k hk => by
    rcases hp.place k hk with h1 | h1
    · exact h.bo k h1
    · exact Nat.le_trans h.bel.size h1, h.bel.trans (hp.chg.below h.bel.size fun i hi => by
    rcases hi with rfl | hi
    · exact h.bb
    · exact h.bo i hi)⟩
theorem FmAt.new (w : World) : FmAt w (w.alloc (.cells #[.pointer none, .slice none 0 0] 69)) w.heap.size (.slice none 0 0) [] := ⟨BdAt.new w, Nat.le_refl _, fun k hk => (by cases hk), bel_alloc _ _⟩
set_option maxHeartbeats 6400000 in
set_option maxRecDepth 100000 in
theorem format_any (t : ByteArray) (a : Option Addr) (n c : Nat) (sg : List (ByteArray × ByteArray)) (B : Nat) (w : World) (hL : NL B w) (hB : B ≤ w.heap.size) (hs : t.size ≤ 1073741824) (hv : SigsAt w (.slice a n c) sg) (hn : sg.length = n) (hm : n ≤ 1073741824) (hz : ZS sg) :
    Calls Tryz.prog 15 #[.agg #[.string t, .slice a n c]] w fun e w' => e = .returned (fmV (t, sg)) ∧ Below w.heap.size w w' := by
  obtain ⟨W1, hW1⟩ : ∃ W1, w.alloc (.cells #[.string t, .slice a n c] 32) = W1 := ⟨_, rfl⟩
  have hB1 : Below w.heap.size w W1 := by rw [← hW1]; exact bel_alloc _ _
  have hS1 : Pk.Blk W1 w.heap.size [.string t, .slice a n c] 32 := by rw [← hW1]; exact Pk.Blk.new w _ _
  have s0 : W1.cell? ⟨w.heap.size, 0, none⟩ = some (.string t) := hS1.cell 0
  have s1 : W1.cell? ⟨w.heap.size, 1, none⟩ = some (.slice a n c) := hS1.cell 1
  have hF := goodnote_any t a n c sg B W1 (hL.here hB hB1) (Nat.le_trans hB hB1.size) hs (hv.here hB1) hn hm hz
  cases hg : gN (t, sg) with
  | false =>
    rw [hg] at hF
    rw [fmV_no hg]
    replace hB1 := Box.mk hB1
    clear hL hB hv hn hz hs hS1 hg
    go_enter Tryz.func15, Tryz.ntmps15
    go_wp2_with fail
    refine hF.mono ?_
    clear hF
    rintro e w1 ⟨rfl, hb1⟩
    replace hb1 := Box.mk hb1
    go_wp2_with fail
    go_ret2
    exact ⟨rfl, mono_bel hB1.out hb1.out (Nat.le_refl _)⟩
  | true =>
    rw [hg] at hF
    rw [fmV_yes hg]
    obtain ⟨_, g2, g3⟩ := gN_iff.1 hg
    have hlen := Box.mk (fmL_len hg)
    have hz0 := Box.mk (fmL_zero t sg)
    have hsu := Box.mk (fmL_succ t sg)
    have hall := Box.mk (fmL_all t sg)
    have hvB := Box.mk (hv.here hB1)
    have hnB := Box.mk hn
    replace g3 := Box.mk g3
    rw [hn] at g2
    replace hB1 := Box.mk hB1
    replace hS1 := Box.mk hS1
    clear hL hB hv hz hg hn hm
    go_enter Tryz.func15, Tryz.ntmps15
    go_wp2_with fail
    refine hF.mono ?_
    clear hF
    rintro e w1 ⟨rfl, hb1⟩
    have hS2 := Box.mk ((hb1.block _ hS1.out.lt).trans hS1.out)
    have hB2 := Box.mk (mono_bel hB1.out hb1 (Nat.le_refl _))
    have hv2 := Box.mk (hvB.out.here hb1)
    have hA := Box.mk (FmAt.new w1)
    have hS3 : Pk.Blk (w1.alloc (.cells #[.pointer none, .slice none 0 0] 69)) w.heap.size [.string t, .slice a n c] 32 := ((bel_alloc w1 _).block _ (Pk.Blk.lt hS2.out)).trans hS2.out
    have t0 : (w1.alloc (.cells #[.pointer none, .slice none 0 0] 69)).cell? ⟨w.heap.size, 0, none⟩ = some (.string t) := hS3.cell 0
    have hW := wstr_any w1.heap.size (.slice none 0 0) [] (t ++ sN) _ hA.out.at_ (by show 0 + (t ++ sN).size ≤ _; rw [ByteArray.size_append]; show 0 + (t.size + 1) ≤ _; omega)
    rw [List.nil_append] at hW
    rw [← hz0.out] at hW
    unfold sN at hW
    obtain ⟨bb, hbb⟩ : ∃ b, w1.heap.size = b := ⟨_, rfl⟩
    rw [hbb] at hW hA
    have hbb1 : w.heap.size < w1.heap.size := Pk.Blk.lt hS2.out
    clear s0 s1 hb1 hS1 hvB hB1 hS3 hz0
    go_wp2_with fail
    refine hW.mono ?_
    clear hW t0
    rintro e w2 ⟨rfl, v2, hp2⟩
    have hA2 := Box.mk (hA.out.put hp2)
    have s1 : w2.cell? ⟨w.heap.size, 1, none⟩ = some (.slice a n c) := (hA2.out.bel.cell (p := ⟨w.heap.size, 1, none⟩) hbb1).trans (Pk.Blk.cell hS2.out 1)
    clear hA hp2 hbb hS2 hbb1
    go_wp2_with fail
    go_loopw [17] (fun q wr => ∃ (i : Nat) (v : Value), i ≤ n ∧ q = .int .i64 (i : Int) ∧ Box (FmAt w1 wr bb v (fmL t sg i))) (fun q _ => n - (intOf q).toNat)
    case atStart => exact ⟨0, v2, by omega, rfl, hA2⟩
    case round =>
      clear hA2 s1
      obtain ⟨i, v, hi, rfl, hA⟩ := hrel
      by_cases hlt : i < n
      · have hig : i < sg.length := by rw [hnB.out]; exact hlt
        obtain ⟨b1, o1, rfl, k0, k1⟩ := (hv2.out.here hA.out.bel).at i hig
        have hsi := hsu.out i hig
        have hxs := g3.out _ (mem_getD hig)
        have hln := hlen.out i
        obtain ⟨x, hx⟩ : ∃ x, sg.getD i default = x := ⟨_, rfl⟩
        rw [hx] at k0 k1 hsi hxs
        obtain ⟨x1, x2⟩ := x
        simp only at k0 k1 hsi hxs
        obtain ⟨e1, e2, e3⟩ := hxs
        have hii : (i : Int) < (n : Int) := by omega
        obtain ⟨wx, hwx⟩ : ∃ wx, wr.alloc (.cells #[.string x1, .string x2] 39) = wx := ⟨_, rfl⟩
        have hA3 : Box (FmAt w1 wx bb v (fmL t sg i)) := ⟨by rw [← hwx]; exact hA.out.here (bel_alloc _ _)⟩
        have hSx : Box (Pk.Blk wx wr.heap.size [.string x1, .string x2] 39) := ⟨by rw [← hwx]; exact Pk.Blk.new wr _ _⟩
        have hsz : Box ((hxT x1).size = 64 ∧ (hxT x2).size ≤ 2048) := ⟨by rw [hxT_size, e1], by rw [hxT_size]; omega⟩
        have hH1 := Box.mk (fun w' => hex_any x1 w' (by omega))
        have hH2 := Box.mk (fun w' => hex_any x2 w' (by omega))
        have hWs := Box.mk (fun (w' : World) (h : Below wx.heap.size wx w') => wstr_any bb v (fmL t sg i) (sSig ++ hxT x1 ++ sBl ++ hxT x2 ++ sN) w' (hA3.out.here h).at_ (by
          have h1 := hsz.out
          rw [ByteArray.size_append, ByteArray.size_append, ByteArray.size_append, ByteArray.size_append]
          have z1 : sSig.size = 4 := rfl
          have z2 : sBl.size = 1 := rfl
          have z3 : sN.size = 1 := rfl
          omega))
        rw [← hsi] at hWs
        clear hx hig hsi hln e1 e2 e3 hA
        go_wp2_with fail
        refine region_steady (PC wx) (fun w w' => Below w.heap.size w w') rfl (dB wx) ?_
        refine anyS_calms [0, 1] 9 rfl (fun _ => Below.refl _ _) (PC.st wx) (by kernel_rfl) (by kernel_rfl) (by kernel_rfl) ?_
        simp [nth]
        try simp only [Act.put, List.setIfInBounds_toArray, List.set_cons_succ, List.set_cons_zero]
        repeat (go_big_quiet_step (first | exact fun _ => rfl | rfl))
        refine quiet_val rfl (.string x1) (fun w' hw' => by have h3 := (Pk.Blk.cell ((hw'.block _ (Pk.Blk.lt hSx.out)).trans hSx.out) 0); simp only [List.getElem?_cons_zero] at h3; go_simp) ?_
        simp only [Act.put, List.setIfInBounds_toArray, List.set_cons_succ, List.set_cons_zero]
        refine wpQuiet_nil ?_
        refine anyS_call 2 (.string (hxT x1)) (fun _ => Below.refl _ _) (PC.st wx) (by kernel_rfl) rfl (by kernel_rfl) (by kernel_rfl) rfl (fun w' _ => hH1.out w') (fun w' _ => by go_simp) ?_
        refine anyS_calms [3, 4, 5, 6] 4 rfl (fun _ => Below.refl _ _) (PC.st wx) (by kernel_rfl) (by kernel_rfl) (by kernel_rfl) ?_
        simp [nth]
        try simp only [Act.put, List.setIfInBounds_toArray, List.set_cons_succ, List.set_cons_zero]
        refine quiet_val rfl (.string (sSig ++ hxT x1)) (fun w' _ => by unfold sSig; go_simp; have := hsz.out; omega) ?_
        simp only [Act.put, List.setIfInBounds_toArray, List.set_cons_succ, List.set_cons_zero]
        refine quiet_val rfl (.string (sSig ++ hxT x1 ++ sBl)) (fun w' _ => by unfold sBl; go_simp; have := hsz.out; have z1 : sSig.size = 4 := rfl; omega) ?_
        simp only [Act.put, List.setIfInBounds_toArray, List.set_cons_succ, List.set_cons_zero]
        repeat (go_big_quiet_step (first | exact fun _ => rfl | rfl))
        refine quiet_val rfl (.string x2) (fun w' hw' => by have h3 := (Pk.Blk.cell ((hw'.block _ (Pk.Blk.lt hSx.out)).trans hSx.out) 1); simp only [List.getElem?_cons_zero, List.getElem?_cons_succ] at h3; go_simp) ?_
        simp only [Act.put, List.setIfInBounds_toArray, List.set_cons_succ, List.set_cons_zero]
        refine wpQuiet_nil ?_
        refine anyS_call 7 (.string (hxT x2)) (fun _ => Below.refl _ _) (PC.st wx) (by kernel_rfl) rfl (by kernel_rfl) (by kernel_rfl) rfl (fun w' _ => hH2.out w') (fun w' _ => by go_simp) ?_
        refine anyS_calms [8, 9] 1 rfl (fun _ => Below.refl _ _) (PC.st wx) (by kernel_rfl) (by kernel_rfl) (by kernel_rfl) ?_
        simp [nth]
        try simp only [Act.put, List.setIfInBounds_toArray, List.set_cons_succ, List.set_cons_zero]
        refine quiet_val rfl (.string (sSig ++ hxT x1 ++ sBl ++ hxT x2)) (fun w' _ => by go_simp; have := hsz.out; have z1 : sSig.size = 4 := rfl; have z2 : sBl.size = 1 := rfl; omega) ?_
        simp only [Act.put, List.setIfInBounds_toArray, List.set_cons_succ, List.set_cons_zero]
        refine quiet_val rfl (.string (sSig ++ hxT x1 ++ sBl ++ hxT x2 ++ sN)) (fun w' _ => by unfold sN; go_simp; have := hsz.out; have z1 : sSig.size = 4 := rfl; have z2 : sBl.size = 1 := rfl; omega) ?_
        simp only [Act.put, List.setIfInBounds_toArray, List.set_cons_succ, List.set_cons_zero]
        refine wpQuiet_nil ?_
        generalize sSig ++ hxT x1 ++ sBl ++ hxT x2 ++ sN = Z at hWs ⊢
        clear hH1 hH2 hsz
        refine anyS_last 10 (by kernel_rfl) rfl rfl (by kernel_rfl) (by kernel_rfl) (fun wc hWc K hK => ?_)
        have hF := hWs.out wc hWc
        go_simp
        refine hF.mono ?_
        rintro e w5 ⟨rfl, v5, hp5⟩
        have hA5 := Box.mk ((hA3.out.here hWc).put hp5)
        refine hK _ _ ?_
        clear hK K hF hWc hp5 hA3 hWs hSx hwx k0 k1
        go_wp2_with fail
        exact ⟨⟨i + 1, v5, by omega, by go_num, hA5⟩, by simp [intOf]; omega⟩
      · obtain rfl : i = n := by omega
        have hl0 : fmL t sg i ≠ [] := by unfold fmL; simp
        have hF := bstr_any bb v (fmL t sg i) wr hA.out.at_ hl0
        have he : fmL t sg i = byN (t, sg) := by rw [← hnB.out]; exact hall.out
        rw [he] at hF
        have hfin := Box.mk (fun (w' : World) (hc : Pk.Chg (fun k => v.ownBlock = some k) wr w') => (mono_bel hB2.out (hA.out.bel.trans (hc.below hA.out.bel.size fun k hk => hA.out.bo k hk)) (Nat.le_refl _) : Below w.heap.size w w'))
        obtain ⟨Z, hZ⟩ : ∃ Z : ByteArray, (⟨(byN (t, sg)).toArray⟩ : ByteArray) = Z := ⟨_, rfl⟩
        rw [hZ] at hF
        replace hZ := Box.mk hZ
        clear hA he hl0
        go_wp2_with fail
        refine hF.mono ?_
        clear hF
        rintro e w5 ⟨rfl, hc5⟩
        replace hc5 := Box.mk hc5
        go_wp2_with fail
        go_ret2
        exact ⟨by rw [hZ.out]; rfl, hfin.out _ hc5.out⟩
end Go.Proofs.YtdjppgmaokcgiaaGreatDoor.Nt

namespace Go.Proofs.YtdjppgmaokcgiaaGreatDoor.Nt
open Go Go.RowKit

def neB (x : ByteArray) : Bool := !decide (x = ⟨#[]⟩)
theorem ne_b (x : ByteArray) : (!x.toList.isEmpty) = neB x := by
  unfold neB
  have h := tl_eq x ⟨#[]⟩
  have e : (⟨#[]⟩ : ByteArray).toList = [] := by rw [ByteArray.toList_eq]
  rw [e] at h
  rw [← h]
  cases x.toList <;> rfl
theorem gN_doc (t : ByteArray) (sg : List (ByteArray × ByteArray)) : gN (t, sg) = (((lnB t && (lnT t).all neB) && sg.all gS) && decide (0 < (lnT t).length) && decide (sg.length ≤ 16)) := by
  have h1 : gT t.data.toList = (lnB t && (lnT t).all neB && decide (0 < (lnT t).length)) := by
    rw [gT_eq]
    unfold gTd lnB lnT
    rw [List.all_map, List.length_map]
    have e1 : (lnL t.data.toList).2.isEmpty = decide ((lnL t.data.toList).2 = []) := by
      cases (lnL t.data.toList).2 <;> simp
    have e2 : (neB ∘ bT) = (fun a : List UInt8 => !a.isEmpty) := by
      funext a
      show (!decide (bT a = ⟨#[]⟩)) = !a.isEmpty
      cases a with
      | nil => rfl
      | cons x a =>
        have : ¬ bT (x :: a) = ⟨#[]⟩ := fun h => by
          have := congrArg (fun z : ByteArray => z.data.toList) h
          simp [bT] at this
        rw [decide_eq_false this]; rfl
    have e3 : (!(lnL t.data.toList).1.isEmpty) = decide (0 < (lnL t.data.toList).1.length) := by
      cases (lnL t.data.toList).1 <;> simp
    rw [e1, e2, e3]
  show (gT t.data.toList && decide (sg.length ≤ 16) && sg.all gS) = _
  rw [h1]
  generalize lnB t = a
  generalize (lnT t).all neB = b
  generalize decide (0 < (lnT t).length) = c
  generalize decide (sg.length ≤ 16) = d
  generalize sg.all gS = e
  revert a b c d e
  decide
theorem all_take {α : Type} [Inhabited α] (p : α → Bool) (l : List α) (i : Nat) (h : i < l.length) (d : α) : (l.take (i + 1)).all p = ((l.take i).all p && p (l.getD i d)) := by
  rw [List.take_succ_eq_append_getElem h, List.all_append, show l.getD i d = l[i] by simp [List.getD, h]]
  simp
set_option maxHeartbeats 6400000 in
set_option maxRecDepth 100000 in
theorem dgood_any (t : ByteArray) (a : Option Addr) (n c : Nat) (sg : List (ByteArray × ByteArray)) (w : World) (hs : t.size ≤ 1073741824) (hv : SigsAt w (.slice a n c) sg) (hn : sg.length = n) (hm : n ≤ 1073741824) :
    Calls Tryz.prog 24 #[.agg #[.string t, .slice a n c]] w fun e w' => e = .returned (.bool (gN (t, sg))) ∧ Below w.heap.size w w' := by
  obtain ⟨W1, hW1⟩ : ∃ W1, w.alloc (.cells #[.string t, .slice a n c] 32) = W1 := ⟨_, rfl⟩
  have hB1 : Below w.heap.size w W1 := by rw [← hW1]; exact bel_alloc _ _
  have hS1 : Pk.Blk W1 w.heap.size [.string t, .slice a n c] 32 := by rw [← hW1]; exact Pk.Blk.new w _ _
  have s0 : W1.cell? ⟨w.heap.size, 0, none⟩ = some (.string t) := hS1.cell 0
  have hpl := lnT_length t
  have hLn : Calls Tryz.prog 46 #[.string t] W1 fun e wb => ∃ (a : Option Addr) (c : Nat), e = .returned (.tuple #[.slice a (lnT t).length c, .bool (lnB t)]) ∧ Box (PartsAt wb (.slice a (lnT t).length c) (lnT t)) ∧ Box (Below W1.heap.size W1 wb) := (lines_any t W1 hs).mono fun e wb h => by
    obtain ⟨⟨v, h1, h2⟩, h3⟩ := h
    obtain ⟨a, c, rfl⟩ := h2.shape
    exact ⟨a, c, h1, ⟨h2.parts⟩, ⟨h3⟩⟩
  rw [gN_doc]
  obtain ⟨q, hq⟩ : ∃ q, lnT t = q := ⟨_, rfl⟩
  obtain ⟨ok, hok⟩ : ∃ b, lnB t = b := ⟨_, rfl⟩
  rw [hq, hok] at hLn
  rw [hq] at hpl
  rw [hq, hok]
  obtain ⟨L, hLe⟩ : ∃ L, q.length = L := ⟨_, rfl⟩
  rw [hLe] at hLn hpl
  rw [hLe, hn]
  replace hLe := Box.mk hLe
  have hvB := Box.mk hv
  have hnB := Box.mk hn
  replace hB1 := Box.mk hB1
  replace hS1 := Box.mk hS1
  clear hv hn hq hok
  go_enter Tryz.func24, Tryz.ntmps24
  go_wp2_with fail
  refine hLn.mono ?_
  clear hLn
  rintro e wb ⟨ga, gc, rfl, hP, hBb⟩
  have hB2 := Box.mk (mono_bel hB1.out hBb.out (Nat.le_refl _))
  have hS2 := Box.mk ((hBb.out.block _ (Pk.Blk.lt hS1.out)).trans hS1.out)
  have s1 : wb.cell? ⟨w.heap.size, 1, none⟩ = some (.slice a n c) := Pk.Blk.cell hS2.out 1
  have h00 : Box (ok = (ok && (q.take 0).all neB)) := ⟨by simp⟩
  clear s0 hW1 hB1 hBb
  go_wp2_with fail
  go_loop [4, 5] (fun o q' => ∃ (i : Nat) (b : Bool), i ≤ L ∧ q' = .int .i64 (i : Int) ∧ o = .bool b ∧ Box (b = (ok && (q.take i).all neB))) (fun _ q' => L - (intOf q').toNat)
  case atStart => exact ⟨0, ok, by omega, rfl, rfl, h00⟩
  case round =>
    clear h00
    obtain ⟨i, b, hi, rfl, rfl, hb⟩ := hrel
    by_cases hlt : i < L
    · have hat := all_take neB q i (by rw [hLe.out]; exact hlt) ByteArray.empty
      obtain ⟨ga2, gc2, e2, hcl⟩ := hP.out.ex
      rw [hLe.out] at e2 hcl
      cases e2
      obtain ⟨g, off, rfl, hglt, hcell⟩ := hcl (by omega)
      have p1 := hcell i hlt
      obtain ⟨x, hx⟩ : ∃ x, q.getD i ByteArray.empty = x := ⟨_, rfl⟩
      rw [hx] at hat p1
      have hii : (i : Int) < (L : Int) := by omega
      cases b with
      | false =>
        have hn2 : Box (false = (ok && (q.take (i + 1)).all neB)) := ⟨by rw [hat, ← Bool.and_assoc, ← hb.out, Bool.false_and]⟩
        clear hat hb hcell hcl hx
        go_wp2_with fail
        go_round
        case rel => exact ⟨i + 1, false, by omega, by go_num, rfl, hn2⟩
        case measure => simp [intOf]; omega
      | true =>
        have hn2 : Box (neB x = (ok && (q.take (i + 1)).all neB)) := ⟨by rw [hat, ← Bool.and_assoc, ← hb.out, Bool.true_and]⟩
        clear hat hb hcell hcl hx
        go_wp2_with fail
        go_round
        case rel => exact ⟨i + 1, neB x, by omega, by go_num, by rw [ne_b], hn2⟩
        case measure => simp [intOf]; omega
    · obtain rfl : i = L := by omega
      rw [← hLe.out, List.take_length] at hb
      obtain ⟨b1, hb1⟩ : ∃ b1, b = b1 := ⟨_, rfl⟩
      rw [hb1] at hb ⊢
      have h00 : Box (b1 = (b1 && (sg.take 0).all gS)) := ⟨by simp⟩
      clear hP
      go_wp2_with fail
      go_loop [4, 6] (fun o q' => ∃ (i : Nat) (b : Bool), i ≤ n ∧ q' = .int .i64 (i : Int) ∧ o = .bool b ∧ Box (b = (b1 && (sg.take i).all gS))) (fun _ q' => n - (intOf q').toNat)
      case atStart => exact ⟨0, b1, by omega, rfl, rfl, h00⟩
      case round =>
        clear h00
        obtain ⟨j, r, hj, rfl, rfl, hr⟩ := hrel
        by_cases hlt2 : j < n
        · have hjg : j < sg.length := by rw [hnB.out]; exact hlt2
          have hat := all_take gS sg j hjg default
          obtain ⟨g1, o1, rfl, k0, k1⟩ := (hvB.out.here (mono_bel hB2.out (Below.refl _ _) (Nat.le_refl _))).at j hjg
          obtain ⟨x, hx⟩ : ∃ x, sg.getD j default = x := ⟨_, rfl⟩
          rw [hx] at hat k0 k1
          obtain ⟨x1, x2⟩ := x
          simp only at k0 k1
          have hii : (j : Int) < (n : Int) := by omega
          cases r with
          | false =>
            have hn2 : Box (false = (b1 && (sg.take (j + 1)).all gS)) := ⟨by rw [hat, ← Bool.and_assoc, ← hr.out, Bool.false_and]⟩
            clear hat hr hx hjg
            go_wp2_with fail
            go_round
            case rel => exact ⟨j + 1, false, by omega, by go_num, rfl, hn2⟩
            case measure => simp [intOf]; omega
          | true =>
            have hn2 : Box (gS (x1, x2) = (b1 && (sg.take (j + 1)).all gS)) := ⟨by rw [hat, ← Bool.and_assoc, ← hr.out, Bool.true_and]⟩
            have hg : gS (x1, x2) = (decide (x1.size = 32) && decide (1 ≤ x2.size) && decide (x2.size ≤ 1024)) := rfl
            clear hat hr hx hjg
            by_cases m1 : x1.size = 32
            · have d1 : ((x1.size : Int) == 32) = true := by rw [m1]; rfl
              by_cases m2 : 1 ≤ x2.size
              · by_cases m3 : x2.size ≤ 1024
                · rw [hg, decide_eq_true m1, decide_eq_true m2, decide_eq_true m3] at hn2
                  clear hg m1
                  go_wp2_with fail
                  go_round
                  case rel => exact ⟨j + 1, true, by omega, by go_num, by first | rfl | (simp <;> omega), hn2⟩
                  case measure => simp [intOf]; omega
                · rw [hg, decide_eq_true m1, decide_eq_true m2, decide_eq_false m3] at hn2
                  clear hg m1
                  go_wp2_with fail
                  go_round
                  case rel => exact ⟨j + 1, false, by omega, by go_num, by first | rfl | (simp <;> omega), hn2⟩
                  case measure => simp [intOf]; omega
              · rw [hg, decide_eq_true m1, decide_eq_false m2] at hn2
                clear hg m1
                go_wp2_with fail
                go_round
                case rel => exact ⟨j + 1, false, by omega, by go_num, by first | rfl | (simp <;> omega), hn2⟩
                case measure => simp [intOf]; omega
            · have d1 : ((x1.size : Int) == 32) = false := by simpa using (by omega : (x1.size : Int) ≠ 32)
              rw [hg, decide_eq_false m1] at hn2
              clear hg m1
              go_wp2_with fail
              go_round
              case rel => exact ⟨j + 1, false, by omega, by go_num, rfl, hn2⟩
              case measure => simp [intOf]; omega
        · obtain rfl : j = n := by omega
          rw [← hnB.out, List.take_length, hb.out] at hr
          cases r with
          | false =>
            have hfin := Box.mk hr.out
            clear hr
            go_wp2_with fail
            go_ret
            exact ⟨ret_b (by rw [← hfin.out]; rfl), hB2.out⟩
          | true =>
            have hfin := Box.mk hr.out
            clear hr
            by_cases m1 : 0 < i
            · by_cases m2 : j ≤ 16
              · go_wp2_with fail
                go_ret
                exact ⟨ret_b (by first | rfl | (rw [← hfin.out]; simp <;> omega) | (simp <;> omega)), hB2.out⟩
              · go_wp2_with fail
                go_ret
                exact ⟨ret_b (by first | rfl | (rw [← hfin.out]; simp <;> omega) | (simp <;> omega)), hB2.out⟩
            · go_wp2_with fail
              go_ret
              exact ⟨ret_b (by first | rfl | (rw [← hfin.out]; simp <;> omega) | (simp <;> omega)), hB2.out⟩
theorem bT_next (t : ByteArray) (sg : List (ByteArray × ByteArray)) (i : Nat) (h : i < sg.length) : bT (fmL t sg i) ++ sSig ++ hxT (sg.getD i default).1 ++ sBl ++ hxT (sg.getD i default).2 ++ sN = bT (fmL t sg (i + 1)) := by
  refine ba_ext ?_
  show _ = fmL t sg (i + 1)
  rw [fmL_succ t sg i h]
  simp only [ByteArray.data_append, Array.toList_append, List.append_assoc]
  rfl
theorem bT_size (l : List UInt8) : (bT l).size = l.length := rfl
set_option maxHeartbeats 6400000 in
set_option maxRecDepth 100000 in
theorem dformat_any (t : ByteArray) (a : Option Addr) (n c : Nat) (sg : List (ByteArray × ByteArray)) (w : World) (hs : t.size ≤ 1073741824) (hv : SigsAt w (.slice a n c) sg) (hn : sg.length = n) (hm : n ≤ 1073741824) :
    Calls Tryz.prog 10 #[.agg #[.string t, .slice a n c]] w fun e w' => e = .returned (fmV (t, sg)) ∧ Below w.heap.size w w' := by
  obtain ⟨W1, hW1⟩ : ∃ W1, w.alloc (.cells #[.string t, .slice a n c] 32) = W1 := ⟨_, rfl⟩
  have hB1 : Below w.heap.size w W1 := by rw [← hW1]; exact bel_alloc _ _
  have hS1 : Pk.Blk W1 w.heap.size [.string t, .slice a n c] 32 := by rw [← hW1]; exact Pk.Blk.new w _ _
  have s0 : W1.cell? ⟨w.heap.size, 0, none⟩ = some (.string t) := hS1.cell 0
  have s1 : W1.cell? ⟨w.heap.size, 1, none⟩ = some (.slice a n c) := hS1.cell 1
  have hF := dgood_any t a n c sg W1 hs (hv.here hB1) hn hm
  cases hg : gN (t, sg) with
  | false =>
    rw [hg] at hF
    rw [fmV_no hg]
    replace hB1 := Box.mk hB1
    clear hv hn hs hS1 hg
    go_enter Tryz.func10, Tryz.ntmps10
    go_wp2_with fail
    refine hF.mono ?_
    clear hF
    rintro e w1 ⟨rfl, hb1⟩
    replace hb1 := Box.mk hb1
    go_wp2_with fail
    go_ret2
    exact ⟨rfl, mono_bel hB1.out hb1.out (Nat.le_refl _)⟩
  | true =>
    rw [hg] at hF
    rw [fmV_yes hg]
    obtain ⟨_, g2, g3⟩ := gN_iff.1 hg
    have hlen := Box.mk (fmL_len hg)
    have hz0 : Box (t ++ ⟨#[10]⟩ = bT (fmL t sg 0)) := ⟨ba_ext (by show _ = fmL t sg 0; rw [fmL_zero]; rfl)⟩
    have hsu := Box.mk (bT_next t sg)
    have hall : Box (bT (fmL t sg n) = ⟨(byN (t, sg)).toArray⟩) := ⟨by rw [← hn, fmL_all]; rfl⟩
    have hvB := Box.mk (hv.here hB1)
    have hnB := Box.mk hn
    replace g3 := Box.mk g3
    rw [hn] at g2
    replace hB1 := Box.mk hB1
    replace hS1 := Box.mk hS1
    clear hv hg hn hm
    go_enter Tryz.func10, Tryz.ntmps10
    go_wp2_with fail
    refine hF.mono ?_
    clear hF
    rintro e w1 ⟨rfl, hb1⟩
    have hS2 := Box.mk ((hb1.block _ hS1.out.lt).trans hS1.out)
    have hB2 := Box.mk (mono_bel hB1.out hb1 (Nat.le_refl _))
    have hv2 := Box.mk (hvB.out.here hb1)
    have s0 : w1.cell? ⟨w.heap.size, 0, none⟩ = some (.string t) := Pk.Blk.cell hS2.out 0
    have hB0 : Box (Below w1.heap.size w1 w1) := ⟨Below.refl _ _⟩
    have hbb1 : w.heap.size < w1.heap.size := Pk.Blk.lt hS2.out
    have hd1 : t.size + 1 ≤ 9223372036854775807 := by omega
    clear hb1 hS1 hvB hB1 hW1
    go_wp2_with fail
    go_loopw [4, 5] (fun z q wr => ∃ i : Nat, i ≤ n ∧ q = .int .i64 (i : Int) ∧ z = .string (bT (fmL t sg i)) ∧ Box (Below w1.heap.size w1 wr)) (fun _ q _ => n - (intOf q).toNat)
    case atStart => exact ⟨0, by omega, rfl, by rw [← hz0.out], hB0⟩
    case round =>
      clear hB0 s0 hz0
      obtain ⟨i, hi, rfl, rfl, hB⟩ := hrel
      have s1 : wr.cell? ⟨w.heap.size, 1, none⟩ = some (.slice a n c) := (hB.out.cell (p := ⟨w.heap.size, 1, none⟩) hbb1).trans (Pk.Blk.cell hS2.out 1)
      by_cases hlt : i < n
      · have hig : i < sg.length := by rw [hnB.out]; exact hlt
        have hvr := hv2.out.here hB.out
        obtain ⟨b1, o1, rfl, k0, k1⟩ := hvr.at i hig
        have hsi := hsu.out i hig
        have hxs := g3.out _ (mem_getD hig)
        have hln := hlen.out i
        have hcc : Box (∀ w', Below wr.heap.size wr w' → w'.cell? ⟨b1, o1 + i * 2, none⟩ = some (.string (sg.getD i default).1) ∧ w'.cell? ⟨b1, o1 + i * 2 + 1, none⟩ = some (.string (sg.getD i default).2)) := ⟨fun w' hw => by
          obtain ⟨b3, o3, e3, j0, j1⟩ := (hvr.here hw).at i hig
          cases e3
          exact ⟨j0, j1⟩⟩
        obtain ⟨x, hx⟩ : ∃ x, sg.getD i default = x := ⟨_, rfl⟩
        rw [hx] at hcc hsi hxs
        obtain ⟨x1, x2⟩ := x
        simp only at hcc hsi hxs
        obtain ⟨e1, e2, e3⟩ := hxs
        have hii : (i : Int) < (n : Int) := by omega
        obtain ⟨Z, hZ⟩ : ∃ Z, bT (fmL t sg i) = Z := ⟨_, rfl⟩
        have hZs : Z.size ≤ 1073741824 + 35217 := by rw [← hZ, bT_size]; omega
        rw [hZ] at hsi ⊢
        have hsz : Box ((hxT x1).size = 64 ∧ (hxT x2).size ≤ 2048 ∧ Z.size ≤ 1073741824 + 35217) := ⟨by rw [hxT_size, e1], by rw [hxT_size]; omega, hZs⟩
        have hH1 := Box.mk (fun w' => rhex_any x1 w' (by omega))
        have hH2 := Box.mk (fun w' => rhex_any x2 w' (by omega))
        have hlt' : w.heap.size < wr.heap.size := Nat.lt_of_lt_of_le hbb1 hB.out.size
        have hs1 := Box.mk (fun w' (hw : Below wr.heap.size wr w') => (hw.cell (p := ⟨w.heap.size, 1, none⟩) hlt').trans s1)
        replace hsi := Box.mk hsi
        clear hx hig hln e1 e2 e3 hvr k0 k1 hZ hZs hlt'
        go_wp2_with fail
        refine region_quiet (fun w' => Below wr.heap.size wr w') (by kernel_rfl) (by kernel_rfl) (dB _) ?_
        repeat (go_big_quiet_step (first | exact fun _ => rfl | rfl))
        refine quiet_val rfl (.string (Z ++ sSig)) (fun w' _ => by unfold sSig; go_simp; have := hsz.out; omega) ?_
        simp only [Act.put, List.setIfInBounds_toArray, List.set_cons_succ, List.set_cons_zero]
        repeat (go_big_quiet_step (first | exact fun _ => rfl | rfl))
        refine quiet_val rfl (.slice (some ⟨b1, o1, none⟩) n c) (fun w' hw' => by have h3 := hs1.out w' hw'; go_simp) ?_
        simp only [Act.put, List.setIfInBounds_toArray, List.set_cons_succ, List.set_cons_zero]
        repeat (go_big_quiet_step (first | exact fun _ => rfl | rfl))
        refine quiet_val rfl (.string x1) (fun w' hw' => by have h3 := (hcc.out w' hw').1; go_simp) ?_
        simp only [Act.put, List.setIfInBounds_toArray, List.set_cons_succ, List.set_cons_zero]
        repeat (go_big_quiet_step (first | exact fun _ => rfl | rfl))
        refine quiet_call rfl (.string (hxT x1)) (fun w' hw' => bel_call (hH1.out w') hw') (fun w' _ => by go_simp) ?_
        simp only [Act.put, List.setIfInBounds_toArray, List.set_cons_succ, List.set_cons_zero]
        repeat (go_big_quiet_step (first | exact fun _ => rfl | rfl))
        refine quiet_val rfl (.string (Z ++ sSig ++ hxT x1)) (fun w' _ => by go_simp; have := hsz.out; have z1 : sSig.size = 4 := rfl; omega) ?_
        simp only [Act.put, List.setIfInBounds_toArray, List.set_cons_succ, List.set_cons_zero]
        repeat (go_big_quiet_step (first | exact fun _ => rfl | rfl))
        refine quiet_val rfl (.string (Z ++ sSig ++ hxT x1 ++ sBl)) (fun w' _ => by unfold sBl; go_simp; have := hsz.out; have z1 : sSig.size = 4 := rfl; omega) ?_
        simp only [Act.put, List.setIfInBounds_toArray, List.set_cons_succ, List.set_cons_zero]
        repeat (go_big_quiet_step (first | exact fun _ => rfl | rfl))
        refine quiet_val rfl (.slice (some ⟨b1, o1, none⟩) n c) (fun w' hw' => by have h3 := hs1.out w' hw'; go_simp) ?_
        simp only [Act.put, List.setIfInBounds_toArray, List.set_cons_succ, List.set_cons_zero]
        repeat (go_big_quiet_step (first | exact fun _ => rfl | rfl))
        refine quiet_val rfl (.string x2) (fun w' hw' => by have h3 := (hcc.out w' hw').2; go_simp) ?_
        simp only [Act.put, List.setIfInBounds_toArray, List.set_cons_succ, List.set_cons_zero]
        repeat (go_big_quiet_step (first | exact fun _ => rfl | rfl))
        refine quiet_call rfl (.string (hxT x2)) (fun w' hw' => bel_call (hH2.out w') hw') (fun w' _ => by go_simp) ?_
        simp only [Act.put, List.setIfInBounds_toArray, List.set_cons_succ, List.set_cons_zero]
        repeat (go_big_quiet_step (first | exact fun _ => rfl | rfl))
        refine quiet_val rfl (.string (Z ++ sSig ++ hxT x1 ++ sBl ++ hxT x2)) (fun w' _ => by go_simp; have := hsz.out; have z1 : sSig.size = 4 := rfl; have z2 : sBl.size = 1 := rfl; omega) ?_
        simp only [Act.put, List.setIfInBounds_toArray, List.set_cons_succ, List.set_cons_zero]
        repeat (go_big_quiet_step (first | exact fun _ => rfl | rfl))
        refine quiet_val rfl (.string (Z ++ sSig ++ hxT x1 ++ sBl ++ hxT x2 ++ sN)) (fun w' _ => by unfold sN; go_simp; have := hsz.out; have z1 : sSig.size = 4 := rfl; have z2 : sBl.size = 1 := rfl; omega) ?_
        simp only [Act.put, List.setIfInBounds_toArray, List.set_cons_succ, List.set_cons_zero]
        repeat (go_big_quiet_step (first | exact fun _ => rfl | rfl))
        refine wpQuiet_nil ?_
        intro w5 hw5
        have hB5 := Box.mk (mono_bel hB.out hw5 (Nat.le_refl _))
        rw [hsi.out]
        clear hH1 hH2 hsz hs1 hcc hB s1 hsi hw5
        go_wp2_with fail
        exact ⟨⟨i + 1, by omega, by go_num, rfl, hB5⟩, by simp [intOf]; omega⟩
      · obtain rfl : i = n := by omega
        have hfin := Box.mk (mono_bel hB2.out hB.out (Nat.le_refl _))
        clear hB
        go_wp2_with fail
        go_ret2
        exact ⟨by rw [← hall.out]; rfl, hfin.out⟩
end Go.Proofs.YtdjppgmaokcgiaaGreatDoor.Nt

namespace Go.Proofs.YtdjppgmaokcgiaaGreatDoor.Nt
open Go Go.RowKit

theorem cutL_len (l p : List UInt8) : (Lib.cut l p).1.length ≤ l.length ∧ (Lib.cut l p).2.1.length ≤ l.length := by
  unfold Lib.cut
  split
  · exact ⟨by rw [List.length_take]; exact Nat.min_le_right _ _, by rw [List.length_drop]; omega⟩
  · exact ⟨Nat.le_refl _, Nat.zero_le _⟩
theorem trimL_len (l p : List UInt8) : (Lib.trimPrefix l p).length ≤ l.length := by
  unfold Lib.trimPrefix
  split
  · rw [List.length_drop]; omega
  · exact Nat.le_refl _
theorem rdS_size (l : List UInt8) : (rdS l).1.size ≤ l.length ∧ (rdS l).2.size ≤ l.length := by
  have h1 := trimL_len l lSig
  have h2 := cutL_len (Lib.trimPrefix l lSig) [32]
  have h3 := unT_size (bT (Lib.cut (Lib.trimPrefix l lSig) [32]).1)
  have h4 := unT_size (bT (Lib.cut (Lib.trimPrefix l lSig) [32]).2.1)
  rw [bT_size] at h3 h4
  unfold rdS
  exact ⟨by show (unT _).size ≤ _; exact Nat.le_trans h3 (by omega), by show (unT _).size ≤ _; exact Nat.le_trans h4 (by omega)⟩
set_option maxHeartbeats 1600000 in
set_option maxRecDepth 100000 in
theorem readsig_any (s : ByteArray) (B : Nat) (w : World) (hL : NL B w) (hB : B ≤ w.heap.size) (hs : s.size ≤ 1073741824) :
    Calls Tryz.prog 66 #[.string s] w fun e w' => e = .returned (.agg #[.string (rdS s.data.toList).1, .string (rdS s.data.toList).2]) ∧ Below w.heap.size w w' := by
  obtain ⟨l, hl⟩ : ∃ l, s.data.toList = l := ⟨_, rfl⟩
  have hlen : l.length = s.size := by rw [← hl, data_len]
  have hT := Tryz.strings_TrimPrefix s ⟨#[115, 105, 103, 32]⟩
  rw [hl, show (⟨#[115, 105, 103, 32]⟩ : ByteArray).data.toList = lSig from rfl] at hT
  have hR : rdS l = (unT (Lib.cut (Lib.trimPrefix l lSig) [32]).1, unT (Lib.cut (Lib.trimPrefix l lSig) [32]).2.1) := rfl
  have n0 := trimL_len l lSig
  obtain ⟨tp, htp⟩ : ∃ tp, Lib.trimPrefix l lSig = tp := ⟨_, rfl⟩
  rw [htp] at hT hR n0
  have n1 := cutL_len tp [32]
  have hC := fun k w' hk => Tryz.strings_Cut (bT tp) ⟨#[32]⟩ k w' (by rw [bT_size]; omega) hk
  rw [show (bT tp).data.toList = tp from rfl, show (⟨#[32]⟩ : ByteArray).data.toList = [32] from rfl] at hC
  obtain ⟨x, y, b, hc⟩ : ∃ x y b, Lib.cut tp [32] = (x, y, b) := ⟨_, _, _, rfl⟩
  rw [hc] at hC hR n1
  simp only at hC hR n1
  rw [hl, hR]
  have hU1 := Box.mk (fun w' => nunhex_any (bT x) w' (by rw [bT_size]; omega))
  have hU2 := Box.mk (fun w' => nunhex_any (bT y) w' (by rw [bT_size]; omega))
  rw [show (bT x).data.toList = x from rfl] at hU1
  rw [show (bT y).data.toList = y from rfl] at hU2
  obtain ⟨X, hX⟩ : ∃ X, unT x = X := ⟨_, rfl⟩
  obtain ⟨Y, hY⟩ : ∃ Y, unT y = Y := ⟨_, rfl⟩
  rw [hX] at hU1 ⊢
  rw [hY] at hU2 ⊢
  unfold bT at hU1 hU2 hC
  have hS := Box.mk (Pk.Blk.new w [.string ⟨#[]⟩, .string ⟨#[]⟩] 39)
  obtain ⟨wa, hwa⟩ : ∃ wa, w.alloc (.cells #[.string ⟨#[]⟩, .string ⟨#[]⟩] 39) = wa := ⟨_, rfl⟩
  have hSa : Box (Pk.Blk wa w.heap.size [.string ⟨#[]⟩, .string ⟨#[]⟩] 39) := ⟨by rw [← hwa]; exact Pk.Blk.new w _ _⟩
  have hBa : Box (Below w.heap.size w wa) := ⟨by rw [← hwa]; exact bel_alloc _ _⟩
  obtain ⟨k, hk⟩ := (hL.here hB hBa.out).m
  have hC1 := hC k wa hk
  clear hl hlen hR n0 htp n1 hc hX hY hS hL hB hk hC hs
  go_enter Tryz.func66, Tryz.ntmps66
  go_wp2_with fail
  refine (hT _).mono ?_
  clear hT hwa
  rintro e w1 ⟨rfl, hw1⟩
  obtain rfl : wa = w1 := hw1.symm
  go_wp2_with fail
  refine hC1.mono ?_
  clear hC1
  rintro e w2 ⟨rfl, nq, hw2⟩
  have hb2 : Below wa.heap.size wa w2 := by rw [hw2]; exact Drawn.below ⟨nq, rfl⟩
  have hB2 := Box.mk (mono_bel hBa.out hb2 (Nat.le_refl _))
  have hS2 := Box.mk ((hb2.block _ (Pk.Blk.lt hSa.out)).trans hSa.out)
  clear hw2 hb2 hBa hSa
  go_wp2_with fail
  refine (hU1.out _).mono ?_
  clear hU1
  rintro e w3 ⟨rfl, hb3⟩
  have hB3 := Box.mk (mono_bel hB2.out hb3 (Nat.le_refl _))
  have hS3 := Box.mk ((hb3.block _ (Pk.Blk.lt hS2.out)).trans hS2.out)
  clear hb3 hB2 hS2
  go_wp2_with fail
  refine (hU2.out _).mono ?_
  clear hU2
  rintro e w4 ⟨rfl, hb4⟩
  have hB4 := Box.mk (mono_bel hB3.out hb4 (Nat.le_refl _))
  have hS4 : Pk.Blk w4 w.heap.size [.string ⟨#[]⟩, .string ⟨#[]⟩] 39 := (hb4.block _ (Pk.Blk.lt hS3.out)).trans hS3.out
  have c0 := hS4.cell 0
  have c1 := hS4.cell 1
  have f0 := hS4.free 0
  have f1 := hS4.free 1
  simp only [List.getElem?_cons_zero, List.getElem?_cons_succ] at c0 c1
  have hf : Box (Pk.Blk ((w4.setCell ⟨w.heap.size, 0, none⟩ (.string X)).setCell ⟨w.heap.size, 1, none⟩ (.string Y)) w.heap.size [.string X, .string Y] 39 ∧ Below w.heap.size w ((w4.setCell ⟨w.heap.size, 0, none⟩ (.string X)).setCell ⟨w.heap.size, 1, none⟩ (.string Y))) :=
    ⟨(hS4.setCell 0 (.string X)).setCell 1 (.string Y), (hB4.out.setCell (p := ⟨w.heap.size, 0, none⟩) (Nat.le_refl _) _).setCell (p := ⟨w.heap.size, 1, none⟩) (Nat.le_refl _) _⟩
  clear hb4 hB3 hS3 hS4
  go_wp2_with fail
  have k0 : ((w4.setCell ⟨w.heap.size, 0, none⟩ (.string X)).setCell ⟨w.heap.size, 1, none⟩ (.string Y)).cell? ⟨w.heap.size, 0, none⟩ = some (.string X) := hf.out.1.cell 0
  have k1 : ((w4.setCell ⟨w.heap.size, 0, none⟩ (.string X)).setCell ⟨w.heap.size, 1, none⟩ (.string Y)).cell? ⟨w.heap.size, 1, none⟩ = some (.string Y) := hf.out.1.cell 1
  clear c0 c1 f0 f1
  refine bodyPost_ret (v := .agg #[.string X, .string Y]) (by simp [results, Tryz.results66, go_sem, k0, k1]; try rfl) rfl ⟨rfl, hf.out.2⟩
/-- A new block with one signature. -/
theorem sig_new (w : World) (x : ByteArray × ByteArray) : SigsAt (w.alloc (.cells #[.string x.1, .string x.2] 39)) (.slice (some ⟨w.heap.size, 0, none⟩) 1 1) [x] := by
  have h : Pk.Blk (w.alloc (.cells #[.string x.1, .string x.2] 39)) w.heap.size [.string x.1, .string x.2] 39 := Pk.Blk.new w _ _
  refine ⟨_, _, rfl, fun _ => ⟨w.heap.size, 0, rfl, by simp, fun i hi => ?_⟩⟩
  obtain rfl : i = 0 := by simpa using hi
  exact ⟨h.cell 0, h.cell 1⟩
def lenV : Value → Nat | .slice _ n _ => n | _ => 0
def RdsI (w0 : World) (sg : List (ByteArray × ByteArray)) (e : Ending) (w' : World) : Prop := ∃ v, e = .returned v ∧ SgRow w0 w' v sg
theorem rdsL_step (n : Nat) (rest : List UInt8) (h : rest ≠ []) : rdsL (n + 1) rest = rdS (Lib.cut rest nl).1 :: rdsL n (Lib.cut rest nl).2.1 := by rw [rdsL, if_neg h]
theorem rdsL_nil (n : Nat) : rdsL n [] = [] := by cases n <;> rfl
set_option maxHeartbeats 3200000 in
set_option maxRecDepth 100000 in
theorem readsigs_any (s : ByteArray) (B : Nat) (w : World) (hL : NL B w) (hB : B ≤ w.heap.size) (hs : s.size ≤ 1073741824) :
    Calls Tryz.prog 48 #[.string s] w (RdsI w (rdsL 17 s.data.toList)) := by
  obtain ⟨R, hR⟩ : ∃ R, rdsL 17 s.data.toList = R := ⟨_, rfl⟩
  have hA0 : Box (SgRow w w (.slice none 0 0) [] ∧ [] ++ rdsL (17 - 0) s.data.toList = R) := ⟨⟨Pk.Row.nil _ _ _, (fun k hk => by cases hk), Below.refl _ _⟩, by rw [← hR]; rfl⟩
  have hLB := Box.mk (And.intro hL hB)
  obtain ⟨i0, hi, hz0, hz1, hz2⟩ := info_parts info_sig
  have hH := Box.mk (And.intro hi (And.intro hz0 (And.intro hz1 hz2)))
  rw [hR]
  clear hL hB hR hi hz0 hz1 hz2
  go_enter Tryz.func48, Tryz.ntmps48
  go_wp2_with fail
  go_loopw [0, 3] (fun r v wr => ∃ (z : ByteArray) (sg : List (ByteArray × ByteArray)), sg.length ≤ 17 ∧ z.size ≤ 1073741824 ∧ r = .string z ∧ Box (SgRow w wr v sg ∧ sg ++ rdsL (17 - sg.length) z.data.toList = R)) (fun _ v _ => 17 - lenV v)
  case atStart => exact ⟨s, [], by simp, hs, rfl, hA0⟩
  case round =>
    clear hA0
    obtain ⟨z, sg, hn, hz, rfl, hA⟩ := hrel
    obtain ⟨a7, c7, e7⟩ := hA.out.1.row.shape
    obtain ⟨n7, hn7⟩ : ∃ n, sg.length = n := ⟨_, rfl⟩
    rw [hn7] at e7 hn hA
    subst e7
    by_cases he : z = ⟨#[]⟩
    · have hq : (!z.toList.isEmpty) = false := by rw [ne_b]; unfold neB; rw [he]; rfl
      have hq2 : z.toList = [] := by rw [he, ByteArray.toList_eq]
      have hRe : SgRow w wr (.slice a7 n7 c7) R := by
        have h2 := hA.out.2
        rw [he, show (⟨#[]⟩ : ByteArray).data.toList = [] from rfl, rdsL_nil, List.append_nil] at h2
        rw [← h2]; exact hA.out.1
      replace hRe := Box.mk hRe
      clear he hA
      go_wp2_with fail
      go_ret
      exact ⟨_, rfl, hRe.out⟩
    · have hq : (!z.toList.isEmpty) = true := by rw [ne_b]; unfold neB; rw [decide_eq_false he]; rfl
      have hq2 : ¬ z.toList = [] := by
        intro h; rw [h] at hq; cases hq
      have hzl : z.data.toList ≠ [] := fun h => he (ba_ext h)
      by_cases h17 : n7 ≤ 16
      · have hst := rdsL_step (16 - n7) z.data.toList hzl
        rw [show 16 - n7 + 1 = 17 - n7 by omega] at hst
        have h2 := hA.out.2
        rw [hst] at h2
        have n1 := cutL_len z.data.toList nl
        rw [data_len] at n1
        obtain ⟨hLw, hBw⟩ := hLB.out
        have hLr := hLw.here hBw hA.out.1.bel
        obtain ⟨k, hk⟩ := hLr.m
        have hC := Tryz.strings_Cut z ⟨#[10]⟩ k wr (by omega) hk
        rw [show (⟨#[10]⟩ : ByteArray).data.toList = nl from rfl] at hC
        obtain ⟨x, y, b, hc⟩ : ∃ x y b, Lib.cut z.data.toList nl = (x, y, b) := ⟨_, _, _, rfl⟩
        rw [hc] at hC h2 n1
        simp only at hC h2 n1
        have hS := Box.mk (fun w' (h : Below wr.heap.size wr w') => readsig_any (bT x) B w' (hLr.here (Nat.le_trans hBw hA.out.1.bel.size) h) (Nat.le_trans (Nat.le_trans hBw hA.out.1.bel.size) h.size) (by rw [bT_size]; omega))
        rw [show (bT x).data.toList = x from rfl] at hS
        obtain ⟨X, hX⟩ : ∃ X, rdS x = X := ⟨_, rfl⟩
        rw [hX] at hS h2
        obtain ⟨x1, x2⟩ := X
        have hyz : (bT y).size ≤ 1073741824 := by rw [bT_size]; omega
        have h2' : Box ((sg ++ [(x1, x2)]) ++ rdsL (17 - (n7 + 1)) (bT y).data.toList = R) := ⟨by rw [List.append_assoc, show 17 - (n7 + 1) = 16 - n7 by omega]; exact h2⟩
        unfold bT at hS h2' hyz
        simp only at hS
        clear hst h2 n1 hLr hLw hBw hk hc hX hzl he
        go_wp2_with fail
        refine hC.mono ?_
        clear hC
        rintro e w2 ⟨rfl, nq, hw2⟩
        have hb2 : Below wr.heap.size wr w2 := by rw [hw2]; exact Drawn.below ⟨nq, rfl⟩
        have hR2 := Box.mk (hA.out.1.here hb2)
        have hS2 := hS.out w2 hb2
        clear hw2 hb2 hS
        go_wp2_with fail
        refine hS2.mono ?_
        clear hS2
        rintro e w3 ⟨rfl, hb3⟩
        have hR3 := Box.mk (hR2.out.here hb3)
        have hR4 := Box.mk (hR3.out.here (bel_alloc w3 (.cells #[.string x1, .string x2] 39)))
        have hz4 := Box.mk (sig_new w3 (x1, x2))
        have hnB := Box.mk hn7
        clear hb3 hR2 hn7 hA
        go_wp2_with (at_builtin; refine wpList_pushG rfl (.tmp 18) (.tmp 21) rfl _ sg.length (sgC sg) rfl hR4.out.row (some ⟨w3.heap.size, 0, none⟩) 1 1 [(x1, x2)] rfl rfl hz4.out (by rw [hnB.out]; omega) ?_)
        intro v' w5 hp
        have hA5 : Box (SgRow w w5 v' (sg ++ [(x1, x2)]) ∧ (sg ++ [(x1, x2)]) ++ rdsL (17 - (sg ++ [(x1, x2)]).length) (bT y).data.toList = R) := ⟨hR4.out.pushL rfl hp, by
          rw [List.length_append, hnB.out]; exact h2'.out⟩
        obtain ⟨a8, c8, e8⟩ := hA5.out.1.row.shape
        have hl8 : (sg ++ [(x1, x2)]).length = n7 + 1 := by rw [List.length_append, hnB.out]; rfl
        rw [hl8] at e8
        subst e8
        clear hp hR4 hR3 hz4 h2'
        unfold bT at hA5
        go_wp2_with fail
        exact ⟨⟨_, _, by rw [hl8]; omega, hyz, rfl, hA5⟩, by simp only [lenV]; omega⟩
      · have hRe : SgRow w wr (.slice a7 n7 c7) R := by
          have h2 := hA.out.2
          rw [show 17 - n7 = 0 by omega, rdsL, List.append_nil] at h2
          rw [← h2]; exact hA.out.1
        replace hRe := Box.mk hRe
        clear he hA hzl
        go_wp2_with fail
        go_ret
        exact ⟨_, rfl, hRe.out⟩
end Go.Proofs.YtdjppgmaokcgiaaGreatDoor.Nt

namespace Go.Proofs.YtdjppgmaokcgiaaGreatDoor.Nt
open Go Go.RowKit

theorem st_eq {B C : World → Prop} (h : ∀ w, C w → B w) : St B (fun w w' => w = w') C := ⟨h, fun _ _ hC e => e ▸ hC⟩
def rdT (s : ByteArray) : ByteArray := match rdN s.data.toList with | some n => n.1 | none => ⟨#[]⟩
def rdG (s : ByteArray) : List (ByteArray × ByteArray) := match rdN s.data.toList with | some n => n.2 | none => []
def rdE (s : ByteArray) : Int := match rdN s.data.toList with | some _ => 0 | none => 3
/-- What Read answers: a note, the row of its signatures of the call's own. -/
def RdI (w0 : World) (s : ByteArray) (e : Ending) (w' : World) : Prop := ∃ v, e = .returned (.tuple #[.agg #[.string (rdT s), v], .int .i64 (rdE s)]) ∧ SgRow w0 w' v (rdG s)
theorem rd_none {s : ByteArray} (h : rdN s.data.toList = none) : rdT s = ⟨#[]⟩ ∧ rdG s = [] ∧ rdE s = 3 := by unfold rdT rdG rdE; rw [h]; exact ⟨rfl, rfl, rfl⟩
theorem rd_some {s : ByteArray} {n : ByteArray × List (ByteArray × ByteArray)} (h : rdN s.data.toList = some n) : rdT s = n.1 ∧ rdG s = n.2 ∧ rdE s = 0 := by unfold rdT rdG rdE; rw [h]; exact ⟨rfl, rfl, rfl⟩
/-- In Read: what it answers (a cell), the note that it reads, the row. -/
structure N2 (w0 : World) (bt : Nat) (t : ByteArray) (u v : Value) (sg : List (ByteArray × ByteArray)) (w : World) : Prop where
  b2 : Pk.Blk w w0.heap.size [.string ⟨#[]⟩, .slice none 0 0] 32
  b6 : Pk.Blk w bt [.string t, u] 32
  row : SgRow w0 w v sg
  lt : w0.heap.size < bt
theorem N2.on {w0 w w' : World} {bt : Nat} {t : ByteArray} {u v : Value} {sg : List (ByteArray × ByteArray)} (h : N2 w0 bt t u v sg w) (hb : Below w.heap.size w w') : N2 w0 bt t u v sg w' :=
  ⟨(hb.block _ h.b2.lt).trans h.b2, (hb.block _ h.b6.lt).trans h.b6, h.row.here hb, h.lt⟩
theorem N2.cells {w0 w : World} {bt : Nat} {t : ByteArray} {u v : Value} {sg : List (ByteArray × ByteArray)} (h : N2 w0 bt t u v sg w) : w.cell? ⟨bt, 0, none⟩ = some (.string t) ∧ w.cell? ⟨bt, 1, none⟩ = some u ∧
    w.cell? ⟨w0.heap.size, 0, none⟩ = some (.string ⟨#[]⟩) ∧ w.cell? ⟨w0.heap.size, 1, none⟩ = some (.slice none 0 0) ∧ w.frozen? ⟨w0.heap.size, 0, none⟩ = false ∧ w.frozen? ⟨w0.heap.size, 1, none⟩ = false :=
  ⟨h.b6.cell 0, h.b6.cell 1, h.b2.cell 0, h.b2.cell 1, h.b2.free 0, h.b2.free 1⟩
theorem Row_setCell {w : World} {e : TypeId} {size n b : Nat} {v : Value} {xs cs : List Value} {t : TypeId} (h : Pk.Row w e size v n xs) (hb : Pk.Blk w b cs t) (ht : t ≠ e) (j : Nat) (u : Value) : Pk.Row (w.setCell ⟨b, j, none⟩ u) e size v n xs := by
  have hap := h.apart hb ht
  exact h.chg ((Pk.Chg.refl (fun i => i = b) w).setCell (p := ⟨b, j, none⟩) rfl u) fun k hk e => hap (by rw [hk, e])
theorem SgRow.setCell {w0 w : World} {v : Value} {sg : List (ByteArray × ByteArray)} {b : Nat} {cs : List Value} {t : TypeId} (h : SgRow w0 w v sg) (hb : Pk.Blk w b cs t) (ht : t ≠ 39) (hB : w0.heap.size ≤ b) (j : Nat) (u : Value) : SgRow w0 (w.setCell ⟨b, j, none⟩ u) v sg :=
  ⟨Row_setCell h.row hb ht j u, h.own, h.bel.setCell (p := ⟨b, j, none⟩) hB u⟩
theorem N2.sto {w0 w : World} {bt : Nat} {t : ByteArray} {u v : Value} {sg : List (ByteArray × ByteArray)} (h : N2 w0 bt t u v sg w) (t' : ByteArray) (u' : Value) : N2 w0 bt t' u' v sg ((w.setCell ⟨bt, 0, none⟩ (.string t')).setCell ⟨bt, 1, none⟩ u') := by
  have hl := h.lt
  refine ⟨?_, (h.b6.setCell 0 (.string t')).setCell 1 u', (h.row.setCell h.b6 (by decide) (Nat.le_of_lt hl) 0 _).setCell (h.b6.setCell 0 _) (by decide) (Nat.le_of_lt hl) 1 _, hl⟩
  exact (Below.heap_setCell _ _ _ _ (by simp; omega)).trans ((Below.heap_setCell _ _ _ _ (by simp; omega)).trans h.b2)
theorem SgRow.base {w0 w1 w : World} {v : Value} {sg : List (ByteArray × ByteArray)} (h : SgRow w1 w v sg) (hb : Below w0.heap.size w0 w1) : SgRow w0 w v sg := ⟨h.row, fun k hk => Nat.le_trans hb.size (h.own k hk), mono_bel hb h.bel (Nat.le_refl _)⟩
/-- A region told from a class that need not be its base. -/
theorem region_steadyC {P : Program} (B C : World → Prop) (R : World → World → Prop) {id : Nat} {Q : Exit → Act → World → Prop} {a : Act} {w : World} {l : List Oper} (hm : P.follows .mixedOrders = true) (hC : C w.drew)
    (h : anyS P .any l.toArray B R (Q .normal) l.length (Array.replicate l.length false) a C) : (Code.region id l.toArray true).wp P Q a w := by
  refine wp_region_any hm ?_
  have h2 := any_of_S (fun _ _ h => h) _ _ _ _ _ hC h
  simpa using h2
def fin2 (w0 w : World) (a b : Value) : World := (w.setCell ⟨w0.heap.size, 0, none⟩ a).setCell ⟨w0.heap.size, 1, none⟩ b
theorem fin2_out {w0 w : World} {v : Value} {sg : List (ByteArray × ByteArray)} (hb : Pk.Blk w w0.heap.size [.string ⟨#[]⟩, .slice none 0 0] 32) (hR : SgRow w0 w v sg) (a b : Value) :
    (fin2 w0 w a b).cell? ⟨w0.heap.size, 0, none⟩ = some a ∧ (fin2 w0 w a b).cell? ⟨w0.heap.size, 1, none⟩ = some b ∧ SgRow w0 (fin2 w0 w a b) v sg := by
  have k : Pk.Blk (fin2 w0 w a b) w0.heap.size [a, b] 32 := (hb.setCell 0 a).setCell 1 b
  exact ⟨k.cell 0, k.cell 1, (hR.setCell hb (by decide) (Nat.le_refl _) 0 a).setCell (hb.setCell 0 a) (by decide) (Nat.le_refl _) 1 b⟩
theorem rdN_cand {s : ByteArray} {t : ByteArray} {sg : List (ByteArray × ByteArray)} (h : chkC gN byN s.data.toList (some (t, sg)) = rdN s.data.toList) : (gN (t, sg) = true → (⟨(byN (t, sg)).toArray⟩ : ByteArray) = s → rdN s.data.toList = some (t, sg)) ∧ ((gN (t, sg) = false ∨ (⟨(byN (t, sg)).toArray⟩ : ByteArray) ≠ s) → rdN s.data.toList = none) := by
  rw [← h]
  unfold chkC
  refine ⟨fun h1 h2 => ?_, fun h1 => ?_⟩
  · simp only [h1, ← h2, true_and]
    rw [if_pos trivial]
  · simp only
    rw [if_neg]
    rintro ⟨h2, h3⟩
    rcases h1 with h1 | h1
    · rw [h2] at h1; cases h1
    · exact h1 (ba_ext h3)
theorem rdsL_ZS : ∀ (n : Nat) (l : List UInt8), l.length ≤ 1073741824 → ZS (rdsL n l)
  | 0, _, _ => fun x hx => by cases hx
  | n + 1, l, h => by
    rw [rdsL]
    split
    · exact fun x hx => by cases hx
    · have h1 := cutL_len l nl
      intro x hx
      rcases List.mem_cons.1 hx with h2 | h2
      · have := rdS_size (Lib.cut l nl).1
        rw [h2]
        exact ⟨by omega, by omega⟩
      · exact rdsL_ZS n _ (by omega) x h2
theorem rdsL_len : ∀ (n : Nat) (l : List UInt8), (rdsL n l).length ≤ n
  | 0, _ => Nat.le_refl _
  | n + 1, l => by
    rw [rdsL]
    split
    · exact Nat.zero_le _
    · have := rdsL_len n (Lib.cut l nl).2.1; simp; omega
set_option maxHeartbeats 6400000 in
set_option maxRecDepth 100000 in
theorem read_any (s : ByteArray) (B : Nat) (w : World) (hL : NL B w) (hB : B ≤ w.heap.size) (hs : s.size ≤ 1073741824) :
    Calls Tryz.prog 25 #[.string s] w (RdI w s) := by
  obtain ⟨wa, hwa⟩ : ∃ wa, w.alloc (.cells #[.string ⟨#[]⟩, .slice none 0 0] 32) = wa := ⟨_, rfl⟩
  have hBa : Below w.heap.size w wa := by rw [← hwa]; exact bel_alloc _ _
  have hSa : Pk.Blk wa w.heap.size [.string ⟨#[]⟩, .slice none 0 0] 32 := by rw [← hwa]; exact Pk.Blk.new w _ _
  obtain ⟨k, hk⟩ := (hL.here hB hBa).m
  have hI := Tryz.strings_Index s ⟨#[10, 10]⟩ k wa (by omega) hk
  rw [show (⟨#[10, 10]⟩ : ByteArray).data.toList = nl2 from rfl] at hI
  have hpc : rdN s.data.toList = chkC gN byN s.data.toList (candP s.data.toList) := rfl
  unfold candP at hpc
  have hge := Lib.index_ge s.data.toList nl2
  have hrm := Lib.index_room s.data.toList nl2
  rw [show nl2.length = 2 from rfl, data_len] at hrm
  have hN0 : Box (SgRow w wa (.slice none 0 0) []) := ⟨⟨Pk.Row.nil _ _ _, (fun k hk => by cases hk), hBa⟩⟩
  have hLw := Box.mk hL
  have hBw := Box.mk hB
  replace hBa := Box.mk hBa
  replace hSa := Box.mk hSa
  obtain ⟨I, hIe⟩ : ∃ I, Lib.index s.data.toList nl2 = I := ⟨_, rfl⟩
  rw [hIe] at hI hpc hge hrm
  clear hk hL hB hIe
  obtain ⟨c0, c1, f0, f1⟩ : wa.cell? ⟨w.heap.size, 0, none⟩ = some (.string ⟨#[]⟩) ∧ wa.cell? ⟨w.heap.size, 1, none⟩ = some (.slice none 0 0) ∧ wa.frozen? ⟨w.heap.size, 0, none⟩ = false ∧ wa.frozen? ⟨w.heap.size, 1, none⟩ = false := ⟨hSa.out.cell 0, hSa.out.cell 1, hSa.out.free 0, hSa.out.free 1⟩
  by_cases h0 : I < 0
  · rw [if_pos h0] at hpc
    have hv := rd_none (s := s) hpc
    have hfin := Box.mk (fin2_out hSa.out hN0.out (.string ⟨#[]⟩) (.slice none 0 0))
    replace hv := Box.mk hv
    clear hpc hge hrm hLw hBw
    go_enter Tryz.func25, Tryz.ntmps25
    go_wp2_with fail
    refine hI.mono ?_
    clear hI hwa
    rintro e w1 ⟨rfl, hw1⟩
    obtain rfl : wa = w1 := hw1.symm
    go_wp2_with fail
    have hf := hfin.out
    unfold fin2 at hf
    obtain ⟨k0, k1, hbf⟩ := hf
    clear c0 c1 f0 f1
    refine bodyPost_ret (v := .tuple #[.agg #[.string ⟨#[]⟩, .slice none 0 0], .int .i64 3]) (by simp [results, Tryz.results25, go_sem, k0, k1]; try rfl) rfl ⟨_, by rw [hv.out.1, hv.out.2.2], by rw [hv.out.2.1]; exact hbf⟩
  · rw [if_neg h0] at hpc
    obtain ⟨i, rfl⟩ : ∃ i : Nat, I = (i : Int) := ⟨I.toNat, by omega⟩
    have hi2 : i + 2 ≤ s.size := by have := hrm (by omega); omega
    rw [Int.toNat_natCast] at hpc
    have hcd := rdN_cand hpc.symm
    have hZ := rdsL_ZS 17 (s.data.toList.drop (i + 2)) (by rw [List.length_drop, data_len]; omega)
    have hLn := rdsL_len 17 (s.data.toList.drop (i + 2))
    have e1 : (⟨(s.data.toList.take (i + 1)).toArray⟩ : ByteArray) = s.extract 0 (i + 1) := ba_ext (by rw [Lib.extract_from_zero])
    have e2 : (s.extract (i + 2) s.size).data.toList = s.data.toList.drop (i + 2) := Lib.extract_to_end _ _
    rw [e1] at hcd
    rw [← e2] at hcd hZ hLn
    obtain ⟨Y, hY⟩ : ∃ Y, s.extract (i + 2) s.size = Y := ⟨_, rfl⟩
    obtain ⟨X, hX⟩ : ∃ X, s.extract 0 (i + 1) = X := ⟨_, rfl⟩
    have hYz : Y.size ≤ 1073741824 := by rw [← hY, ByteArray.size_extract]; omega
    have hXz : X.size ≤ 1073741824 := by rw [← hX, ByteArray.size_extract]; omega
    rw [hX, hY] at hcd
    rw [hY] at hZ hLn
    have hRs := Box.mk (fun w' (h : Below w.heap.size w w') => readsigs_any Y B w' (hLw.out.here hBw.out h) (Nat.le_trans hBw.out h.size) hYz)
    obtain ⟨sg, hsg⟩ : ∃ sg, rdsL 17 Y.data.toList = sg := ⟨_, rfl⟩
    rw [hsg] at hcd hZ hLn hRs
    have hFm := Box.mk (fun w' v (h : SgRow w w' v sg) => show ∃ a c, v = .slice a sg.length c ∧ Calls Tryz.prog 15 #[.agg #[.string X, .slice a sg.length c]] w' fun e w'' => e = .returned (fmV (X, sg)) ∧ Below w'.heap.size w' w'' by
      obtain ⟨a, c, rfl⟩ := h.row.shape
      exact ⟨a, c, rfl, format_any X a sg.length c sg B w' (hLw.out.here hBw.out h.bel) (Nat.le_trans hBw.out h.bel.size) hXz h.sigs rfl (by omega) hZ⟩)
    replace hcd := Box.mk hcd
    clear hpc hge hrm hLw hBw e1 e2 hYz hXz hsg hZ hLn hN0 c0 c1 f0 f1
    go_enter Tryz.func25, Tryz.ntmps25
    go_wp2_with fail
    refine hI.mono ?_
    clear hI hwa
    rintro e w1 ⟨rfl, hw1⟩
    obtain rfl : wa = w1 := hw1.symm
    go_wp2_with fail
    refine region_steadyC (fun _ => True) (PC wa) (fun w w' => w = w') rfl (dB wa) ?_
    refine anyS_calms [0, 1, 2, 3, 4, 5, 6, 7] 4 rfl (fun _ => rfl) (st_eq fun _ _ => trivial) (by kernel_rfl) (by kernel_rfl) (by kernel_rfl) ?_
    simp [nth]
    try simp only [Act.put, List.setIfInBounds_toArray, List.set_cons_succ, List.set_cons_zero]
    repeat (go_big_quiet_step (first | exact fun _ => rfl | rfl))
    rw [hY]
    refine wpQuiet_nil ?_
    refine anyS_fork 8 10 (by kernel_rfl) rfl rfl rfl rfl (fun wb hWb K hK => ?_) (fun wb hWb K hK => ?_)
    · have hF := hRs.out wb (mono_bel hBa.out hWb (Nat.le_refl _))
      go_simp
      refine hF.mono ?_
      rintro e wc ⟨v, rfl, hR0⟩
      have hR : SgRow w wc v sg := hR0.base (mono_bel hBa.out hWb (Nat.le_refl _))
      have hb2 : Box (Pk.Blk wc w.heap.size [.string ⟨#[]⟩, .slice none 0 0] 32) := ⟨(hR0.bel.block _ (Nat.lt_of_lt_of_le hSa.out.lt hWb.size)).trans ((hWb.block _ hSa.out.lt).trans hSa.out)⟩
      obtain ⟨a7, c7, rfl⟩ := hR.row.shape
      obtain ⟨n7, hn7⟩ : ∃ n, sg.length = n := ⟨_, rfl⟩
      have hRb := Box.mk hR
      rw [hn7] at hRb
      rw [hn7]
      replace hn7 := Box.mk hn7
      refine hK _ _ (fun w' => w' = wc) (st_eq fun _ _ => trivial) rfl ?_
      clear hK K hF hWb hR0 hR hRs
      refine anyS_calms [9] 2 rfl (fun _ => rfl) (st_eq fun _ _ => trivial) (by kernel_rfl) (by kernel_rfl) (by kernel_rfl) ?_
      simp [nth]
      try simp only [Act.put, List.setIfInBounds_toArray, List.set_cons_succ, List.set_cons_zero]
      repeat (go_big_quiet_step (first | exact fun _ => rfl | rfl))
      refine wpQuiet_nil ?_
      refine anyS_forced 10 (by kernel_rfl) rfl rfl (fun wx hWx K hK => ?_)
      subst hWx
      have hN : N2 w wx.heap.size ⟨#[]⟩ (.slice none 0 0) (.slice a7 n7 c7) sg (wx.alloc (.cells #[.string ⟨#[]⟩, .slice none 0 0] 32)) := ⟨((bel_alloc wx _).block _ (Pk.Blk.lt hb2.out)).trans hb2.out, Pk.Blk.new wx [.string ⟨#[]⟩, .slice none 0 0] _, hRb.out.here (bel_alloc wx _), Pk.Blk.lt hb2.out⟩
      go_simp
      refine hK _ _ (N2 w wx.heap.size ⟨#[]⟩ (.slice none 0 0) (.slice a7 n7 c7) sg) (st_eq fun _ _ => trivial) hN ?_
      clear hK K hN hRb hb2
      generalize wx.heap.size = bt
      clear wx
      refine anyS_last 11 (by kernel_rfl) rfl rfl (by kernel_rfl) (by kernel_rfl) (fun wd hWd K hK => ?_)
      have hQz := Box.mk hWd
      have hQ := Box.mk (hQz.out.sto X (.slice a7 n7 c7))
      have q0 := hQz.out.cells.1
      have q1 := hQz.out.cells.2.1
      have f0 := hQz.out.b6.free 0
      have f1 := hQz.out.b6.free 1
      clear hWd
      go_simp
      refine hK _ _ ?_
      clear hK K q0 q1 f0 f1 hQz
      generalize ((wd.setCell ⟨bt, 0, none⟩ (.string X)).setCell ⟨bt, 1, none⟩ (.slice a7 n7 c7)) = wq at hQ ⊢
      clear wd
      obtain ⟨a0, a1, c0, c1, f0, f1⟩ := hQ.out.cells
      obtain ⟨a8, c8, e8, hF⟩ := hFm.out wq _ hQ.out.row
      rw [hn7.out] at e8 hF
      cases e8
      clear hFm
      cases hg : gN (X, sg) with
      | false =>
        have hv := Box.mk (rd_none (hcd.out.2 (.inl hg)))
        rw [fmV_no hg] at hF
        clear hcd hg
        go_wp2_with fail
        refine hF.mono ?_
        clear hF a0 a1 c0 c1 f0 f1
        rintro e w5 ⟨rfl, hb5⟩
        replace hQ := Box.mk (hQ.out.on hb5)
        obtain ⟨a0, a1, c0, c1, f0, f1⟩ := hQ.out.cells
        clear hb5
        go_wp2_with fail
        have hN0 : SgRow w w5 (.slice none 0 0) [] := ⟨Pk.Row.nil _ _ _, (fun k hk => by cases hk), hQ.out.row.bel⟩
        have hf := fin2_out hQ.out.b2 hN0 (.string ⟨#[]⟩) (.slice none 0 0)
        unfold fin2 at hf
        obtain ⟨k0, k1, hbf⟩ := hf
        clear c0 c1 f0 f1 a0 a1
        refine bodyPost_ret (v := .tuple #[.agg #[.string ⟨#[]⟩, .slice none 0 0], .int .i64 3]) (by simp [results, Tryz.results25, go_sem, k0, k1]; try rfl) rfl ⟨_, by rw [hv.out.1, hv.out.2.2], by rw [hv.out.2.1]; exact hbf⟩
      | true =>
        rw [fmV_yes hg] at hF
        obtain ⟨T, hT⟩ : ∃ T : ByteArray, (⟨(byN (X, sg)).toArray⟩ : ByteArray) = T := ⟨_, rfl⟩
        rw [hT] at hF hcd
        have hqs := tl_eq T s
        by_cases he : T = s
        · have hv := Box.mk (rd_some (hcd.out.1 hg he))
          simp only at hv
          have hq2 : (T.toList != s.toList) = false := by rw [bne, hqs, decide_eq_true he]; rfl
          rw [decide_eq_true he] at hqs
          clear hcd hg hT he
          go_wp2_with fail
          refine hF.mono ?_
          clear hF a0 a1 c0 c1 f0 f1
          rintro e w5 ⟨rfl, hb5⟩
          replace hQ := Box.mk (hQ.out.on hb5)
          obtain ⟨a0, a1, c0, c1, f0, f1⟩ := hQ.out.cells
          clear hb5
          go_wp2_with fail
          have hf := fin2_out hQ.out.b2 hQ.out.row (.string X) (.slice a7 n7 c7)
          unfold fin2 at hf
          obtain ⟨k0, k1, hbf⟩ := hf
          clear c0 c1 f0 f1 a0 a1
          refine bodyPost_ret (v := .tuple #[.agg #[.string X, .slice a7 n7 c7], .int .i64 0]) (by simp [results, Tryz.results25, go_sem, k0, k1]; try rfl) rfl ⟨_, by rw [hv.out.1, hv.out.2.2], by rw [hv.out.2.1]; exact hbf⟩
        · have hv := Box.mk (rd_none (hcd.out.2 (.inr he)))
          have hq2 : (T.toList != s.toList) = true := by rw [bne, hqs, decide_eq_false he]; rfl
          rw [decide_eq_false he] at hqs
          clear hcd hg hT he
          go_wp2_with fail
          refine hF.mono ?_
          clear hF a0 a1 c0 c1 f0 f1
          rintro e w5 ⟨rfl, hb5⟩
          replace hQ := Box.mk (hQ.out.on hb5)
          obtain ⟨a0, a1, c0, c1, f0, f1⟩ := hQ.out.cells
          clear hb5
          go_wp2_with fail
          have hN0 : SgRow w w5 (.slice none 0 0) [] := ⟨Pk.Row.nil _ _ _, (fun k hk => by cases hk), hQ.out.row.bel⟩
          have hf := fin2_out hQ.out.b2 hN0 (.string ⟨#[]⟩) (.slice none 0 0)
          unfold fin2 at hf
          obtain ⟨k0, k1, hbf⟩ := hf
          clear c0 c1 f0 f1 a0 a1
          refine bodyPost_ret (v := .tuple #[.agg #[.string ⟨#[]⟩, .slice none 0 0], .int .i64 3]) (by simp [results, Tryz.results25, go_sem, k0, k1]; try rfl) rfl ⟨_, by rw [hv.out.1, hv.out.2.2], by rw [hv.out.2.1]; exact hbf⟩
    · go_simp
      refine hK _ _ (PK wa wb.heap.size [.string ⟨#[]⟩, .slice none 0 0] 32) (st_eq fun _ _ => trivial) (PK.new hWb _ _) ?_
      clear hK K hWb
      generalize wb.heap.size = bt
      clear wb
      refine anyS_forced 8 (by kernel_rfl) rfl rfl (fun wb hWb K hK => ?_)
      obtain ⟨hWb1, hWb2, hWb3⟩ := hWb
      have hF := hRs.out wb (mono_bel hBa.out hWb1 (Nat.le_refl _))
      go_simp
      refine hF.mono ?_
      rintro e wc ⟨v, rfl, hR0⟩
      have hR : SgRow w wc v sg := hR0.base (mono_bel hBa.out hWb1 (Nat.le_refl _))
      have hb2 : Pk.Blk wc w.heap.size [.string ⟨#[]⟩, .slice none 0 0] 32 := (hR0.bel.block _ (Nat.lt_of_lt_of_le hSa.out.lt hWb1.size)).trans ((hWb1.block _ hSa.out.lt).trans hSa.out)
      have hb6 : Pk.Blk wc bt [.string ⟨#[]⟩, .slice none 0 0] 32 := (hR0.bel.block _ hWb2.lt).trans hWb2
      have hlt : w.heap.size < bt := Nat.lt_of_lt_of_le hSa.out.lt hWb3
      obtain ⟨a7, c7, rfl⟩ := hR.row.shape
      obtain ⟨n7, hn7⟩ : ∃ n, sg.length = n := ⟨_, rfl⟩
      have hRb := Box.mk hR
      rw [hn7] at hRb
      rw [hn7]
      replace hn7 := Box.mk hn7
      have hN : N2 w bt ⟨#[]⟩ (.slice none 0 0) (.slice a7 n7 c7) sg wc := ⟨hb2, hb6, hRb.out, hlt⟩
      refine hK _ _ (N2 w bt ⟨#[]⟩ (.slice none 0 0) (.slice a7 n7 c7) sg) (st_eq fun _ _ => trivial) hN ?_
      clear hK K hF hWb1 hWb2 hWb3 hR0 hR hRs hN hb2 hb6 hlt hRb
      refine anyS_calms [9] 1 rfl (fun _ => rfl) (st_eq fun _ _ => trivial) (by kernel_rfl) (by kernel_rfl) (by kernel_rfl) ?_
      simp [nth]
      try simp only [Act.put, List.setIfInBounds_toArray, List.set_cons_succ, List.set_cons_zero]
      repeat (go_big_quiet_step (first | exact fun _ => rfl | rfl))
      refine wpQuiet_nil ?_
      refine anyS_last 11 (by kernel_rfl) rfl rfl (by kernel_rfl) (by kernel_rfl) (fun wd hWd K hK => ?_)
      have hQz := Box.mk hWd
      have hQ := Box.mk (hQz.out.sto X (.slice a7 n7 c7))
      have q0 := hQz.out.cells.1
      have q1 := hQz.out.cells.2.1
      have f0 := hQz.out.b6.free 0
      have f1 := hQz.out.b6.free 1
      clear hWd
      go_simp
      refine hK _ _ ?_
      clear hK K q0 q1 f0 f1 hQz
      generalize ((wd.setCell ⟨bt, 0, none⟩ (.string X)).setCell ⟨bt, 1, none⟩ (.slice a7 n7 c7)) = wq at hQ ⊢
      clear wd
      obtain ⟨a0, a1, c0, c1, f0, f1⟩ := hQ.out.cells
      obtain ⟨a8, c8, e8, hF⟩ := hFm.out wq _ hQ.out.row
      rw [hn7.out] at e8 hF
      cases e8
      clear hFm
      cases hg : gN (X, sg) with
      | false =>
        have hv := Box.mk (rd_none (hcd.out.2 (.inl hg)))
        rw [fmV_no hg] at hF
        clear hcd hg
        go_wp2_with fail
        refine hF.mono ?_
        clear hF a0 a1 c0 c1 f0 f1
        rintro e w5 ⟨rfl, hb5⟩
        replace hQ := Box.mk (hQ.out.on hb5)
        obtain ⟨a0, a1, c0, c1, f0, f1⟩ := hQ.out.cells
        clear hb5
        go_wp2_with fail
        have hN0 : SgRow w w5 (.slice none 0 0) [] := ⟨Pk.Row.nil _ _ _, (fun k hk => by cases hk), hQ.out.row.bel⟩
        have hf := fin2_out hQ.out.b2 hN0 (.string ⟨#[]⟩) (.slice none 0 0)
        unfold fin2 at hf
        obtain ⟨k0, k1, hbf⟩ := hf
        clear c0 c1 f0 f1 a0 a1
        refine bodyPost_ret (v := .tuple #[.agg #[.string ⟨#[]⟩, .slice none 0 0], .int .i64 3]) (by simp [results, Tryz.results25, go_sem, k0, k1]; try rfl) rfl ⟨_, by rw [hv.out.1, hv.out.2.2], by rw [hv.out.2.1]; exact hbf⟩
      | true =>
        rw [fmV_yes hg] at hF
        obtain ⟨T, hT⟩ : ∃ T : ByteArray, (⟨(byN (X, sg)).toArray⟩ : ByteArray) = T := ⟨_, rfl⟩
        rw [hT] at hF hcd
        have hqs := tl_eq T s
        by_cases he : T = s
        · have hv := Box.mk (rd_some (hcd.out.1 hg he))
          simp only at hv
          have hq2 : (T.toList != s.toList) = false := by rw [bne, hqs, decide_eq_true he]; rfl
          rw [decide_eq_true he] at hqs
          clear hcd hg hT he
          go_wp2_with fail
          refine hF.mono ?_
          clear hF a0 a1 c0 c1 f0 f1
          rintro e w5 ⟨rfl, hb5⟩
          replace hQ := Box.mk (hQ.out.on hb5)
          obtain ⟨a0, a1, c0, c1, f0, f1⟩ := hQ.out.cells
          clear hb5
          go_wp2_with fail
          have hf := fin2_out hQ.out.b2 hQ.out.row (.string X) (.slice a7 n7 c7)
          unfold fin2 at hf
          obtain ⟨k0, k1, hbf⟩ := hf
          clear c0 c1 f0 f1 a0 a1
          refine bodyPost_ret (v := .tuple #[.agg #[.string X, .slice a7 n7 c7], .int .i64 0]) (by simp [results, Tryz.results25, go_sem, k0, k1]; try rfl) rfl ⟨_, by rw [hv.out.1, hv.out.2.2], by rw [hv.out.2.1]; exact hbf⟩
        · have hv := Box.mk (rd_none (hcd.out.2 (.inr he)))
          have hq2 : (T.toList != s.toList) = true := by rw [bne, hqs, decide_eq_false he]; rfl
          rw [decide_eq_false he] at hqs
          clear hcd hg hT he
          go_wp2_with fail
          refine hF.mono ?_
          clear hF a0 a1 c0 c1 f0 f1
          rintro e w5 ⟨rfl, hb5⟩
          replace hQ := Box.mk (hQ.out.on hb5)
          obtain ⟨a0, a1, c0, c1, f0, f1⟩ := hQ.out.cells
          clear hb5
          go_wp2_with fail
          have hN0 : SgRow w w5 (.slice none 0 0) [] := ⟨Pk.Row.nil _ _ _, (fun k hk => by cases hk), hQ.out.row.bel⟩
          have hf := fin2_out hQ.out.b2 hN0 (.string ⟨#[]⟩) (.slice none 0 0)
          unfold fin2 at hf
          obtain ⟨k0, k1, hbf⟩ := hf
          clear c0 c1 f0 f1 a0 a1
          refine bodyPost_ret (v := .tuple #[.agg #[.string ⟨#[]⟩, .slice none 0 0], .int .i64 3]) (by simp [results, Tryz.results25, go_sem, k0, k1]; try rfl) rfl ⟨_, by rw [hv.out.1, hv.out.2.2], by rw [hv.out.2.1]; exact hbf⟩
end Go.Proofs.YtdjppgmaokcgiaaGreatDoor.Nt
