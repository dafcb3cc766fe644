/- Walks of the document's Unhex and Hex. -/
import Derived.Test.YtdjppgmaokcgiaaDoorHexC
namespace Go.Proofs.YtdjppgmaokcgiaaDoor
open Go.RowKit

theorem pair_sum (a b : UInt8) : IntKind.u8.wrap (16 * (hvN a : Int) + (hvN b : Int)) = ((pairB a b).toNat : Int) := by
  have h1 := hvN_lt a; have h2 := hvN_lt b
  rw [pair_nat, IntKind.wrap_u8]; omega

set_option maxHeartbeats 1600000 in
set_option maxRecDepth 100000 in
theorem runhex_odd (s : ByteArray) (w : World) (hs : s.size ≤ 140737488351232) (ho : s.size % 2 = 1) :
    Calls Tryd.prog 28 #[.string s] w fun e w' => e = .returned (.tuple #[.string (unT s.data.toList), .bool (unB s.data.toList)]) ∧ Below w.heap.size w w' := by
  have hn : unhexL s.data.toList = none := unhexL_odd (s.size / 2) _ (by rw [data_len]; omega)
  have e1 : unT s.data.toList = { data := #[] } := by unfold unT; rw [hn]; rfl
  have e2 : unB s.data.toList = false := by unfold unB; rw [hn]; rfl
  rw [e1, e2]
  clear hn e1 e2
  have e3 : (s.size : Int) % 2 = 1 := by omega
  go_enter Tryd.func28, Tryd.ntmps28
  go_wp2_with fail
  go_ret2
  exact ⟨rfl, Below.refl _ _⟩

set_option maxHeartbeats 1600000 in
set_option maxRecDepth 100000 in
theorem runhex_even (s : ByteArray) (w : World) (hs : s.size ≤ 70368744177664) (ho : s.size % 2 = 0) :
    Calls Tryd.prog 28 #[.string s] w fun e w' => e = .returned (.tuple #[.string (unT s.data.toList), .bool (unB s.data.toList)]) ∧ Below w.heap.size w w' := by
  have e4 : (s.size : Int) % 2 = 0 := by omega
  have hO1' : Box (w.ownsRow w.heap.size 5 1 (.slice none 0 0) 0 []) := ⟨World.ownsRow_nil w _ _ _⟩
  have hB1 : Box (Below w.heap.size w w) := ⟨Below.refl _ _⟩
  go_enter Tryd.func28, Tryd.ntmps28
  go_wp2_with fail
  go_loopw [4, 5] (fun s4 q wr => ∃ (k : Nat) (o : List UInt8), 2 * k ≤ s.size ∧ q = .int .i64 ((2 * k : Nat) : Int) ∧ Box (unhexL (s.data.toList.take (2 * k)) = some o) ∧ Box (wr.ownsRow w.heap.size 5 1 s4 o.length (o.map yc)) ∧ Box (Below w.heap.size w wr)) (fun _ q _ => s.size - (intOf q).toNat)
  case atStart => exact ⟨0, [], by omega, rfl, ⟨rfl⟩, hO1', hB1⟩
  case round =>
    clear hO1' hB1 e4
    obtain ⟨k, o, hk, rfl, hU, hO, hB⟩ := hrel
    by_cases hlt : 2 * k + 1 < s.size
    · obtain ⟨x, hx⟩ : ∃ x, s[2 * k] = x := ⟨_, rfl⟩
      obtain ⟨y, hy⟩ : ∃ y, s[2 * k + 1] = y := ⟨_, rfl⟩
      go_wp2_with fail
      refine (digit_any x wr).mono ?_
      rintro e w' ⟨rfl, rfl⟩
      go_wp2_with fail
      refine (digit_any y wr).mono ?_
      rintro e w' ⟨rfl, rfl⟩
      have b1 := hvN_lt x
      have b2 := hvN_lt y
      have hor := pair_sum x y
      by_cases hb : hvB x = true ∧ hvB y = true
      · obtain ⟨hb1, hb2⟩ := hb
        have d1 : dgI x = (hvN x : Int) := by unfold dgI; rw [if_pos hb1]
        have d2 : dgI y = (hvN y : Int) := by unfold dgI; rw [if_pos hb2]
        rw [d1, d2]
        have hU2 : Box (unhexL (s.data.toList.take (2 * (k + 1))) = some (o ++ [pairB x y])) := ⟨by
          have := unhex_step s k o hlt hU.out (by rw [hx]; exact hb1) (by rw [hy]; exact hb2)
          rw [hx, hy] at this; exact this⟩
        have hol : o.length = k := unhexL_length k _ _ (by rw [List.length_take, data_len]; omega) hU.out
        have hB2 : Box (Below w.heap.size w (wr.alloc (.cells #[Value.int .u8 ((pairB x y).toNat : Int)] 5))) := ⟨hB.out.alloc hB.out.size _⟩
        have hsz : w.heap.size ≤ (wr.alloc (.cells #[Value.int .u8 ((pairB x y).toNat : Int)] 5)).heap.size := by have := hB.out.size; simp; omega
        have hO2 : Box ((wr.alloc (.cells #[Value.int .u8 ((pairB x y).toNat : Int)] 5)).ownsRow w.heap.size 5 1 u4 o.length (o.map yc)) := ⟨hO.out.alloc _⟩
        have hn := Box.mk (byte_new wr (pairB x y))
        have hcap : Box (o.length + [pairB x y].length ≤ 70368744177664) := ⟨by simp only [List.length_cons, List.length_nil]; omega⟩
        replace hol := Box.mk hol
        replace hsz := Box.mk hsz
        go_wp2_with (refine wpList_push rfl (.tmp 33) (.tmp 39) rfl w.heap.size _ o rfl hO2 wr.heap.size [pairB x y] rfl hn.out hcap.out hsz.out hB2 ?_; intro v2 w2 hO3 hB3)
        have hm : s.size - (intOf (Value.int IntKind.i64 (2 * ↑k + 2))).toNat < s.size - (intOf (Value.int IntKind.i64 ↑(2 * k))).toNat := by simp [intOf]; omega
        exact ⟨⟨k + 1, o ++ [pairB x y], by omega, u_eq (by omega), hU2, hO3, hB3⟩, hm⟩
      · have hnone : unhexL s.data.toList = none := unhex_bad s k o hlt hU.out (by
          rw [hx, hy]
          cases h1 : hvB x <;> cases h2 : hvB y <;> simp_all)
        have g1 : unT s.data.toList = { data := #[] } := by unfold unT; rw [hnone]; rfl
        have g2 : unB s.data.toList = false := by unfold unB; rw [hnone]; rfl
        replace g1 := Box.mk g1
        replace g2 := Box.mk g2
        clear hnone hor
        by_cases hb1 : hvB x = true
        · have hb2 : hvB y = false := by
            cases h : hvB y
            · rfl
            · exact absurd ⟨hb1, h⟩ hb
          have d1 : dgI x = (hvN x : Int) := by unfold dgI; rw [if_pos hb1]
          have d2 : dgI y = -1 := by unfold dgI; rw [if_neg (by rw [hb2]; decide)]
          rw [d1, d2]
          clear hb
          go_wp2_with fail
          go_ret2
          rw [g1.out, g2.out]
          exact ⟨rfl, hB.out⟩
        · have hb2 : hvB x = false := by simpa using hb1
          have d1 : dgI x = -1 := by unfold dgI; rw [if_neg (by rw [hb2]; decide)]
          rw [d1]
          clear hb hb1
          go_wp2_with fail
          all_goals
            go_ret2
            rw [g1.out, g2.out]
            exact ⟨rfl, hB.out⟩
    · have hend : 2 * k = s.size := by omega
      have hU' := hU.out
      rw [hend, List.take_of_length_le (by rw [data_len]; omega)] at hU'
      have g1 : unT s.data.toList = ⟨o.toArray⟩ := by unfold unT; rw [hU']; rfl
      have g2 : unB s.data.toList = true := by unfold unB; rw [hU']; rfl
      replace g1 := Box.mk g1
      replace g2 := Box.mk g2
      have hcv := own_text hO.out
      clear hU' hO hU
      go_wp2_with fail
      go_ret2
      rw [g1.out, g2.out]
      exact ⟨rfl, hB.out⟩
theorem runhex_any (s : ByteArray) (w : World) (hs : s.size ≤ 70368744177664) :
    Calls Tryd.prog 28 #[.string s] w fun e w' => e = .returned (.tuple #[.string (unT s.data.toList), .bool (unB s.data.toList)]) ∧ Below w.heap.size w w' := by
  rcases Nat.mod_two_eq_zero_or_one s.size with h | h
  · exact runhex_even s w hs h
  · exact runhex_odd s w (by omega) h
set_option maxHeartbeats 800000 in
set_option maxRecDepth 100000 in
theorem rhex_any (s : ByteArray) (w : World) (hs : s.size ≤ 35184372088832) :
    Calls Tryd.prog 23 #[.string s] w fun e w' => e = .returned (.string ⟨(hexL s.data.toList).toArray⟩) ∧ Below w.heap.size w w' := by
  obtain ⟨i0, hi, hz0, hz1, hz2⟩ := info_parts info5
  have HI := Box.mk hi
  have H0 := Box.mk hz0
  have H1 := Box.mk hz1
  have H2 := Box.mk hz2
  clear hi hz0 hz1 hz2
  have hO1' : Box (w.ownsRow w.heap.size 5 1 (.slice none 0 0) (2 * 0) ((hexL (s.data.toList.take 0)).map yc)) := ⟨World.ownsRow_nil w _ _ _⟩
  have hB1 : Box (Below w.heap.size w w) := ⟨Below.refl _ _⟩
  go_enter Tryd.func23, Tryd.ntmps23
  go_wp2_with fail
  go_loopw [4, 5] (fun s3 q wr => ∃ i : Nat, i ≤ s.size ∧ q = .int .i64 i ∧ Box (wr.ownsRow w.heap.size 5 1 s3 (2 * i) ((hexL (s.data.toList.take i)).map yc)) ∧ Box (Below w.heap.size w wr)) (fun _ q _ => s.size - (intOf q).toNat)
  case atStart => exact ⟨0, by omega, rfl, hO1', hB1⟩
  case round =>
    clear hO1' hB1
    obtain ⟨i, hi, rfl, hO, hB⟩ := hrel
    by_cases hlt : i < s.size
    · obtain ⟨x, hx⟩ : ∃ x, s[i] = x := ⟨_, rfl⟩
      have hxl := x.toNat_lt
      have b1 : (0 : Int) ≤ (x.toNat : Int) / 16 ∧ (x.toNat : Int) / 16 < 16 := by omega
      have b2 : (0 : Int) ≤ (x.toNat : Int) % 16 ∧ (x.toNat : Int) % 16 < 16 := by omega
      go_wp2_with fail
      refine region_calm_tail (C := fun _ => True) 13 (by kernel_rfl) (by kernel_rfl) (by kernel_rfl) True.intro ?_
      simp only [List.take_succ_cons, List.take_zero, List.drop_succ_cons, List.drop_zero]
      repeat (go_big_quiet_step (first | exact fun _ => rfl | rfl))
      refine wpQuiet_nil ?_
      have g1 : ∀ h, ({ data := #[48, 49, 50, 51, 52, 53, 54, 55, 56, 57, 97, 98, 99, 100, 101, 102] } : ByteArray)[x.toNat / 16]'h = digit (x.toNat / 16) := fun h => hexLit_get _ h
      have g2 : ∀ h, ({ data := #[48, 49, 50, 51, 52, 53, 54, 55, 56, 57, 97, 98, 99, 100, 101, 102] } : ByteArray)[x.toNat % 16]'h = digit (x.toNat % 16) := fun h => hexLit_get _ h
      simp only [g1, g2]
      clear g1 g2
      obtain ⟨d1, hd1⟩ : ∃ d, digit (x.toNat / 16) = d := ⟨_, rfl⟩
      obtain ⟨d2, hd2⟩ : ∃ d, digit (x.toNat % 16) = d := ⟨_, rfl⟩
      simp only [hd1, hd2]
      replace hd1 := Box.mk hd1
      replace hd2 := Box.mk hd2
      replace hx := Box.mk hx
      clear b1 b2
      refine chain_step rfl (fun K hK => ?_)
      go_simp
      refine hK _ _ True.intro ?_
      clear hK K
      refine chain_step rfl (fun K hK => ?_)
      have hO2 : (wr.alloc (.cells #[Value.int IntKind.u8 ↑d1.toNat, Value.int IntKind.u8 ↑d2.toNat] 5)).drew.ownsRow w.heap.size 5 1 u4 (2 * i) ((hexL (s.data.toList.take i)).map yc) := hO.out.alloc _
      have c1 : ∀ j u, [Value.int IntKind.u8 (d1.toNat : Int), Value.int IntKind.u8 (d2.toNat : Int)][j]? = some u → (wr.alloc (.cells #[Value.int IntKind.u8 (d1.toNat : Int), Value.int IntKind.u8 (d2.toNat : Int)] 5)).drew.cell? ((⟨wr.heap.size, 0, none⟩ : Addr).add j) = some u := by
        intro j u hj
        have hadd : (⟨wr.heap.size, 0, none⟩ : Addr).add j = ⟨wr.heap.size, j, none⟩ := by unfold Addr.add; split <;> simp_all
        rw [hadd]
        show (wr.alloc _).cell? _ = _
        rw [World.cell?_alloc_at _ _ _ _ rfl]
        simpa using hj
      have c2 : ∀ u ∈ [Value.int IntKind.u8 (d1.toNat : Int), Value.int IntKind.u8 (d2.toNat : Int)], u.oneCell' = true := by
        intro u hu; simp at hu; obtain rfl | rfl := hu <;> rfl
      have c3 : 2 * i + 2 ≤ maxLen := by unfold maxLen; omega
      have c4 : (2 * i + 2) * 1 ≤ 140737488355328 := by omega
      have c5 : w.heap.size ≤ (wr.alloc (.cells #[Value.int IntKind.u8 ↑d1.toNat, Value.int IntKind.u8 ↑d2.toNat] 5)).drew.heap.size := by
        have := hB.out.size
        show _ ≤ (wr.alloc _).heap.size
        simp; omega
      refine wp_append_own _ (.tmp 12) (.tmp 25) 44 rfl w.heap.size 5 i0 (.int .u8 0) 1 1 Tryd.underlying44 HI.out H0.out H1.out H2.out rfl (by decide) _ (2 * i) _ rfl hO2 ⟨wr.heap.size, 0, none⟩ 2 2 [Value.int IntKind.u8 ↑d1.toNat, Value.int IntKind.u8 ↑d2.toNat] rfl rfl c1 c2 c3 c4 c5 ?_
      intro v2 w2 hO3 hG3 _
      refine hK _ _ True.intro ?_
      clear hK K c1 c2 c3 c4 c5
      refine chain_step rfl (fun K hK => ?_)
      go_simp
      refine hK _ _ True.intro ?_
      clear hK K
      refine chain_nil ?_
      have hB3 : Box (Below w.heap.size w w2) := by
        have h1 := (hB.out.alloc hB.out.size (.cells #[Value.int IntKind.u8 ↑d1.toNat, Value.int IntKind.u8 ↑d2.toNat] 5)).drew
        refine ⟨h1.grown hG3 ?_ ?_⟩
        · have := hB.out.size
          show _ ≤ (wr.alloc _).heap.size
          simp; omega
        · intro k hk; exact (hO.out.lt k hk).1
      replace hO3 := Box.mk hO3
      clear hG3 hO2
      go_wp2_with fail
      have hm : s.size - (intOf (Value.int IntKind.i64 (↑i + 1))).toNat < s.size - (intOf (Value.int IntKind.i64 ↑i)).toNat := by simp [intOf]; omega
      refine ⟨⟨i + 1, by omega, by go_num, ⟨?_⟩, hB3⟩, hm⟩
      rw [get_take s i hlt, hx.out, hexL_snoc _ _ _ _ hd1.out hd2.out, show 2 * (i + 1) = 2 * i + 2 by omega]
      exact hO3.out
    · obtain rfl : i = s.size := by omega
      have ht : s.data.toList.take s.size = s.data.toList := List.take_of_length_le (by rw [data_len]; omega)
      have hO' := hO.out
      rw [ht] at hO'
      have hl : (hexL s.data.toList).length = 2 * s.size := by rw [hexL_length, data_len]
      rw [← hl] at hO'
      have hcv := own_text hO'
      clear hO hO' hl ht
      go_wp2_with fail
      go_returns
      exact ⟨rfl, hB.out⟩
end Go.Proofs.YtdjppgmaokcgiaaDoor
