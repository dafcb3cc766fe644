/- Walk of same: are these bytes read as what was laid, to the end? -/
import Derived.Test.YtnfcgjefliccgaaPbA
import Derived.Test.YtnfcgjefliccgaaPkR
import Derived.Test.YtnfcgjefliccgaaPkZ
namespace Go.Proofs.Ytnfcgjefliccgaa
open Go.RowKit

theorem flatO_next (os : List OpM) (i : Nat) (hi : i < os.length) (l tl : List UInt8) (h : l ++ tl = flatO (os.drop i)) (ht : tl.length ≤ 1) :
    (∃ l', l = (os[i]).l ++ l' ∧ l' ++ tl = flatO (os.drop (i + 1))) ∨ ∃ x, tl = [x] ∧ l ++ [x] = (os[i]).l := by
  rw [flatO_drop os i hi] at h
  rcases next_op l tl _ _ h ht with ⟨l', h1, h2⟩ | ⟨x, h1, h2, _⟩
  · exact .inl ⟨l', h1, h2⟩
  · exact .inr ⟨x, h1, h2⟩

set_option maxHeartbeats 6400000 in
set_option maxRecDepth 100000 in
theorem same_any (S : ByteArray) (tl : List UInt8) (os : List OpM) (fa : Option Addr) (C N : Nat) (w : World) (hS : S.data.toList ++ tl = flatO os) (htl : tl.length ≤ 1) (hN : os.length = N) (hN3 : N ≤ 1000)
    (hok : ∀ o ∈ os, o.ok = true ∧ o.n ≤ 9223372036854775807)
    (hcut : 0 < N → ∃ cb co, fa = some ⟨cb, co, none⟩ ∧ cb < w.heap.size ∧ ∀ i (h : i < os.length), w.cell? ⟨cb, co + i * 3, none⟩ = some (.int .u8 ((os[i]).k.toNat : Int)) ∧ w.cell? ⟨cb, co + i * 3 + 1, none⟩ = some (.int .i64 (os[i]).n) ∧ w.cell? ⟨cb, co + i * 3 + 2, none⟩ = some (.string (os[i]).s)) :
    Calls Try.prog 17 #[.string S, .slice fa N C] w fun e w' => e = .returned (.bool tl.isEmpty) ∧ Below w.heap.size w w' := by
  replace hcut := Box.mk hcut
  replace hok := Box.mk hok
  replace hS := Box.mk hS
  replace htl := Box.mk htl
  have hR := read_new S w
  go_enter Try.func17, Try.ntmps17
  go_wp2_with fail
  refine hR.mono ?_
  rintro e w1 ⟨rfl, hr1, hb1⟩
  clear hR
  obtain ⟨br, hbr⟩ : ∃ br, w.heap.size = br := ⟨_, rfl⟩
  have hlow : Box (w.heap.size ≤ br) := ⟨by omega⟩
  rw [hbr] at hr1
  replace hr1 := Box.mk hr1
  replace hb1 := Box.mk hb1
  go_wp2_with fail
  go_loopw [16] (fun s16 wr => ∃ (i : Nat) (l : List UInt8), i ≤ N ∧ s16 = .int .i64 i ∧ Box (RAt wr br 43 l 0) ∧ Box (l ++ tl = flatO (os.drop i)) ∧ Box (Below w.heap.size w wr)) (fun s16 _ => N - (intOf s16).toNat)
  case atStart => exact ⟨0, S.data.toList, by omega, rfl, hr1, ⟨by rw [List.drop_zero]; exact hS.out⟩, hb1⟩
  case round =>
    clear hr1 hb1 hS hbr
    obtain ⟨i, l, hi, rfl, hR, hl, hB⟩ := hrel
    by_cases hlt : i < N
    · obtain ⟨cb, co, rfl, hcb, hcs⟩ := hcut.out (by omega)
      have hio : i < os.length := by omega
      obtain ⟨d0, d1, d2⟩ := hcs i hio
      rw [← hB.out.cell (p := ⟨cb, _, none⟩) hcb] at d0 d1 d2
      obtain ⟨ho, hn⟩ := hok.out os[i] (List.getElem_mem hio)
      have hnx := flatO_next os i hio l tl hl.out htl.out
      generalize os[i] = o at d0 d1 d2 ho hn hnx
      obtain ⟨k, n, s⟩ := o
      simp only [OpM.ok] at ho
      have hnew := Blk.new wr [.int .u8 (k.toNat : Int), .int .i64 n, .string s] 31
      obtain ⟨wb, hwb⟩ : ∃ wb, wr.alloc (.cells #[.int .u8 (k.toNat : Int), .int .i64 n, .string s] 31) = wb := ⟨_, rfl⟩
      have hRb : RAt wb br 43 l 0 := hwb ▸ hR.out.chg (S := fun _ => False) ((Chg.refl _ _).alloc _) id
      have hBb : Box (Below w.heap.size w wb) := ⟨hwb ▸ hB.out.alloc hB.out.size _⟩
      rw [hwb] at hnew
      obtain ⟨bo, hbo⟩ : ∃ bo, wr.heap.size = bo := ⟨_, rfl⟩
      have hne : Box (¬ bo = br) := ⟨by have := hR.out.lt; omega⟩
      rw [hbo] at hnew
      have c0 : wb.cell? ⟨bo, 0, none⟩ = some (.int .u8 (k.toNat : Int)) := hnew.cell 0
      have c1 : wb.cell? ⟨bo, 1, none⟩ = some (.int .i64 n) := hnew.cell 1
      have c2 : wb.cell? ⟨bo, 2, none⟩ = some (.string s) := hnew.cell 2
      replace hnew := Box.mk hnew
      replace hRb := Box.mk hRb
      replace ho := Box.mk ho
      replace hn := Box.mk hn
      replace hnx := Box.mk hnx
      have hio' := Box.mk hio
      clear hcs hB hl hR hcut hok hio
      rcases six k with hm | hm | hm | hm | hm | hm
      · have ho2 : fits n 1 = true := by have := ho.out; simpa [opOk, hm] using this
        have hL : (OpM.mk k n s).l = beN n.toNat 1 := by simp [OpM.l, opL, hm]
        have hkm : (k.toNat : Int).tmod 6 = (0 : Int) := by rw [Int.tmod_eq_emod_of_nonneg (by omega)]; omega
        clear hm ho
        rcases hnx.out with ⟨l', hx1, hx2⟩ | ⟨x, hx1, hx2⟩
        · rw [hL] at hx1
          subst hx1
          have hA := rbyte_any br (beN n.toNat 1 ++ l') 0 wb hRb.out
          rw [num_back 1 n l' hn.out ho2] at hA
          replace hA := Box.mk hA
          replace hx2 := Box.mk hx2
          clear hnx hL ho2 hRb
          go_wp2_with fail
          refine hA.out.mono ?_
          rintro r w2 ⟨rfl, hN2⟩
          have hb2 := hN2.chg.blk hnew.out hne.out
          have e0 : w2.cell? ⟨bo, 0, none⟩ = some (.int .u8 (k.toNat : Int)) := hb2.cell 0
          have e1 : w2.cell? ⟨bo, 1, none⟩ = some (.int .i64 n) := hb2.cell 1
          have e2 : w2.cell? ⟨bo, 2, none⟩ = some (.string s) := hb2.cell 2
          have hE := err_any br l' 0 w2 hN2.at_
          have hfin : Box (Below w.heap.size w w2) := ⟨hBb.out.trans (hN2.chg.below hBb.out.size (by rintro i rfl; exact hlow.out))⟩
          have hR2 := Box.mk hN2.at_
          clear hA hb2 hN2 c0 c1 c2 d0 d1 d2 hnew
          go_wp2_with fail
          refine hE.mono ?_
          rintro r w' ⟨rfl, rfl⟩
          clear hE
          go_wp2_with fail
          exact ⟨⟨i + 1, l', by omega, by go_num, hR2, hx2, hfin⟩, by simp [intOf]; omega⟩
        · rw [hL] at hx2
          subst hx1
          have hA := rbyte_any br l 0 wb hRb.out
          rw [num_short 1 l (by have := congrArg List.length hx2; rw [List.length_append, beN_length, List.length_singleton] at this; omega)] at hA
          replace hA := Box.mk hA
          replace hx2 := Box.mk hx2
          clear hnx hL ho2 hRb
          go_wp2_with fail
          refine hA.out.mono ?_
          rintro r w2 ⟨rfl, hN2⟩
          have hE := err_any br l 2 w2 hN2.at_
          have hfin : Box (Below w.heap.size w w2) := ⟨hBb.out.trans (hN2.chg.below hBb.out.size (by rintro i rfl; exact hlow.out))⟩
          clear hA hN2 c0 c1 c2 d0 d1 d2 hnew
          go_wp2_with fail
          refine hE.mono ?_
          rintro r w' ⟨rfl, rfl⟩
          clear hE
          go_wp2_with fail
          go_ret
          exact ⟨rfl, hfin.out⟩
      · have ho2 : fits n 2 = true := by have := ho.out; simpa [opOk, hm] using this
        have hL : (OpM.mk k n s).l = beN n.toNat 2 := by simp [OpM.l, opL, hm]
        have hkm : (k.toNat : Int).tmod 6 = (1 : Int) := by rw [Int.tmod_eq_emod_of_nonneg (by omega)]; omega
        clear hm ho
        rcases hnx.out with ⟨l', hx1, hx2⟩ | ⟨x, hx1, hx2⟩
        · rw [hL] at hx1
          subst hx1
          have hA := rtwo_any br (beN n.toNat 2 ++ l') 0 wb hRb.out
          rw [num_back 2 n l' hn.out ho2] at hA
          replace hA := Box.mk hA
          replace hx2 := Box.mk hx2
          clear hnx hL ho2 hRb
          go_wp2_with fail
          refine hA.out.mono ?_
          rintro r w2 ⟨rfl, hN2⟩
          have hb2 := hN2.chg.blk hnew.out hne.out
          have e0 : w2.cell? ⟨bo, 0, none⟩ = some (.int .u8 (k.toNat : Int)) := hb2.cell 0
          have e1 : w2.cell? ⟨bo, 1, none⟩ = some (.int .i64 n) := hb2.cell 1
          have e2 : w2.cell? ⟨bo, 2, none⟩ = some (.string s) := hb2.cell 2
          have hE := err_any br l' 0 w2 hN2.at_
          have hfin : Box (Below w.heap.size w w2) := ⟨hBb.out.trans (hN2.chg.below hBb.out.size (by rintro i rfl; exact hlow.out))⟩
          have hR2 := Box.mk hN2.at_
          clear hA hb2 hN2 c0 c1 c2 d0 d1 d2 hnew
          go_wp2_with fail
          refine hE.mono ?_
          rintro r w' ⟨rfl, rfl⟩
          clear hE
          go_wp2_with fail
          exact ⟨⟨i + 1, l', by omega, by go_num, hR2, hx2, hfin⟩, by simp [intOf]; omega⟩
        · rw [hL] at hx2
          subst hx1
          have hA := rtwo_any br l 0 wb hRb.out
          rw [num_short 2 l (by have := congrArg List.length hx2; rw [List.length_append, beN_length, List.length_singleton] at this; omega)] at hA
          replace hA := Box.mk hA
          replace hx2 := Box.mk hx2
          clear hnx hL ho2 hRb
          go_wp2_with fail
          refine hA.out.mono ?_
          rintro r w2 ⟨rfl, hN2⟩
          have hE := err_any br l 2 w2 hN2.at_
          have hfin : Box (Below w.heap.size w w2) := ⟨hBb.out.trans (hN2.chg.below hBb.out.size (by rintro i rfl; exact hlow.out))⟩
          clear hA hN2 c0 c1 c2 d0 d1 d2 hnew
          go_wp2_with fail
          refine hE.mono ?_
          rintro r w' ⟨rfl, rfl⟩
          clear hE
          go_wp2_with fail
          go_ret
          exact ⟨rfl, hfin.out⟩
      · have ho2 : fits n 4 = true := by have := ho.out; simpa [opOk, hm] using this
        have hL : (OpM.mk k n s).l = beN n.toNat 4 := by simp [OpM.l, opL, hm]
        have hkm : (k.toNat : Int).tmod 6 = (2 : Int) := by rw [Int.tmod_eq_emod_of_nonneg (by omega)]; omega
        clear hm ho
        rcases hnx.out with ⟨l', hx1, hx2⟩ | ⟨x, hx1, hx2⟩
        · rw [hL] at hx1
          subst hx1
          have hA := rfour_any br (beN n.toNat 4 ++ l') 0 wb hRb.out
          rw [num_back 4 n l' hn.out ho2] at hA
          replace hA := Box.mk hA
          replace hx2 := Box.mk hx2
          clear hnx hL ho2 hRb
          go_wp2_with fail
          refine hA.out.mono ?_
          rintro r w2 ⟨rfl, hN2⟩
          have hb2 := hN2.chg.blk hnew.out hne.out
          have e0 : w2.cell? ⟨bo, 0, none⟩ = some (.int .u8 (k.toNat : Int)) := hb2.cell 0
          have e1 : w2.cell? ⟨bo, 1, none⟩ = some (.int .i64 n) := hb2.cell 1
          have e2 : w2.cell? ⟨bo, 2, none⟩ = some (.string s) := hb2.cell 2
          have hE := err_any br l' 0 w2 hN2.at_
          have hfin : Box (Below w.heap.size w w2) := ⟨hBb.out.trans (hN2.chg.below hBb.out.size (by rintro i rfl; exact hlow.out))⟩
          have hR2 := Box.mk hN2.at_
          clear hA hb2 hN2 c0 c1 c2 d0 d1 d2 hnew
          go_wp2_with fail
          refine hE.mono ?_
          rintro r w' ⟨rfl, rfl⟩
          clear hE
          go_wp2_with fail
          exact ⟨⟨i + 1, l', by omega, by go_num, hR2, hx2, hfin⟩, by simp [intOf]; omega⟩
        · rw [hL] at hx2
          subst hx1
          have hA := rfour_any br l 0 wb hRb.out
          rw [num_short 4 l (by have := congrArg List.length hx2; rw [List.length_append, beN_length, List.length_singleton] at this; omega)] at hA
          replace hA := Box.mk hA
          replace hx2 := Box.mk hx2
          clear hnx hL ho2 hRb
          go_wp2_with fail
          refine hA.out.mono ?_
          rintro r w2 ⟨rfl, hN2⟩
          have hE := err_any br l 2 w2 hN2.at_
          have hfin : Box (Below w.heap.size w w2) := ⟨hBb.out.trans (hN2.chg.below hBb.out.size (by rintro i rfl; exact hlow.out))⟩
          clear hA hN2 c0 c1 c2 d0 d1 d2 hnew
          go_wp2_with fail
          refine hE.mono ?_
          rintro r w' ⟨rfl, rfl⟩
          clear hE
          go_wp2_with fail
          go_ret
          exact ⟨rfl, hfin.out⟩
      · have ho2 : fits n 8 = true := by have := ho.out; simpa [opOk, hm] using this
        have hL : (OpM.mk k n s).l = beN n.toNat 8 := by simp [OpM.l, opL, hm]
        have hkm : (k.toNat : Int).tmod 6 = (3 : Int) := by rw [Int.tmod_eq_emod_of_nonneg (by omega)]; omega
        clear hm ho
        rcases hnx.out with ⟨l', hx1, hx2⟩ | ⟨x, hx1, hx2⟩
        · rw [hL] at hx1
          subst hx1
          have hA := reight_any br (beN n.toNat 8 ++ l') 0 wb hRb.out
          rw [num_back 8 n l' hn.out ho2] at hA
          replace hA := Box.mk hA
          replace hx2 := Box.mk hx2
          clear hnx hL ho2 hRb
          go_wp2_with fail
          refine hA.out.mono ?_
          rintro r w2 ⟨rfl, hN2⟩
          have hb2 := hN2.chg.blk hnew.out hne.out
          have e0 : w2.cell? ⟨bo, 0, none⟩ = some (.int .u8 (k.toNat : Int)) := hb2.cell 0
          have e1 : w2.cell? ⟨bo, 1, none⟩ = some (.int .i64 n) := hb2.cell 1
          have e2 : w2.cell? ⟨bo, 2, none⟩ = some (.string s) := hb2.cell 2
          have hE := err_any br l' 0 w2 hN2.at_
          have hfin : Box (Below w.heap.size w w2) := ⟨hBb.out.trans (hN2.chg.below hBb.out.size (by rintro i rfl; exact hlow.out))⟩
          have hR2 := Box.mk hN2.at_
          clear hA hb2 hN2 c0 c1 c2 d0 d1 d2 hnew
          go_wp2_with fail
          refine hE.mono ?_
          rintro r w' ⟨rfl, rfl⟩
          clear hE
          go_wp2_with fail
          exact ⟨⟨i + 1, l', by omega, by go_num, hR2, hx2, hfin⟩, by simp [intOf]; omega⟩
        · rw [hL] at hx2
          subst hx1
          have hA := reight_any br l 0 wb hRb.out
          rw [num_short 8 l (by have := congrArg List.length hx2; rw [List.length_append, beN_length, List.length_singleton] at this; omega)] at hA
          replace hA := Box.mk hA
          replace hx2 := Box.mk hx2
          clear hnx hL ho2 hRb
          go_wp2_with fail
          refine hA.out.mono ?_
          rintro r w2 ⟨rfl, hN2⟩
          have hE := err_any br l 2 w2 hN2.at_
          have hfin : Box (Below w.heap.size w w2) := ⟨hBb.out.trans (hN2.chg.below hBb.out.size (by rintro i rfl; exact hlow.out))⟩
          clear hA hN2 c0 c1 c2 d0 d1 d2 hnew
          go_wp2_with fail
          refine hE.mono ?_
          rintro r w' ⟨rfl, rfl⟩
          clear hE
          go_wp2_with fail
          go_ret
          exact ⟨rfl, hfin.out⟩
      · have ho2 : s.size ≤ 65535 := by have := ho.out; simpa [opOk, hm] using this
        have hL : (OpM.mk k n s).l = textL s := by simp [OpM.l, opL, hm]
        have hkm : (k.toNat : Int).tmod 6 = (4 : Int) := by rw [Int.tmod_eq_emod_of_nonneg (by omega)]; omega
        clear hm ho
        rcases hnx.out with ⟨l', hx1, hx2⟩ | ⟨x, hx1, hx2⟩
        · rw [hL] at hx1
          subst hx1
          have hA := rtext_any br (textL s ++ l') 0 65535 wb hRb.out
          rw [text_back s l' ho2] at hA
          simp only [mk_data] at hA
          replace hA := Box.mk hA
          replace hx2 := Box.mk hx2
          clear hnx hL ho2 hRb
          go_wp2_with fail
          refine hA.out.mono ?_
          rintro r w2 ⟨rfl, hN2⟩
          have hb2 := hN2.chg.blk hnew.out hne.out
          have e0 : w2.cell? ⟨bo, 0, none⟩ = some (.int .u8 (k.toNat : Int)) := hb2.cell 0
          have e1 : w2.cell? ⟨bo, 1, none⟩ = some (.int .i64 n) := hb2.cell 1
          have e2 : w2.cell? ⟨bo, 2, none⟩ = some (.string s) := hb2.cell 2
          have hE := err_any br l' 0 w2 hN2.at_
          have hfin : Box (Below w.heap.size w w2) := ⟨hBb.out.trans (hN2.chg.below hBb.out.size (by rintro i rfl; exact hlow.out))⟩
          have hR2 := Box.mk hN2.at_
          clear hA hb2 hN2 c0 c1 c2 d0 d1 d2 hnew
          go_wp2_with fail
          refine hE.mono ?_
          rintro r w' ⟨rfl, rfl⟩
          clear hE
          go_wp2_with fail
          exact ⟨⟨i + 1, l', by omega, by go_num, hR2, hx2, hfin⟩, by simp [intOf]; omega⟩
        · rw [hL] at hx2
          subst hx1
          have hA := rtext_any br l 0 65535 wb hRb.out
          rw [text_short s l x hx2 ho2] at hA
          replace hA := Box.mk hA
          replace hx2 := Box.mk hx2
          clear hnx hL ho2 hRb
          go_wp2_with fail
          refine hA.out.mono ?_
          rintro r w2 ⟨rfl, hN2⟩
          have hE := err_any br l 2 w2 hN2.at_
          have hfin : Box (Below w.heap.size w w2) := ⟨hBb.out.trans (hN2.chg.below hBb.out.size (by rintro i rfl; exact hlow.out))⟩
          clear hA hN2 c0 c1 c2 d0 d1 d2 hnew
          go_wp2_with fail
          refine hE.mono ?_
          rintro r w' ⟨rfl, rfl⟩
          clear hE
          go_wp2_with fail
          go_ret
          exact ⟨rfl, hfin.out⟩
      · have ho2 : s.data.toList.length = 32 := by have := ho.out; rw [data_len]; simpa [opOk, hm] using this
        have hL : (OpM.mk k n s).l = s.data.toList := by simp [OpM.l, opL, hm]
        have hkm : (k.toNat : Int).tmod 6 = (5 : Int) := by rw [Int.tmod_eq_emod_of_nonneg (by omega)]; omega
        clear hm ho
        rcases hnx.out with ⟨l', hx1, hx2⟩ | ⟨x, hx1, hx2⟩
        · rw [hL] at hx1
          subst hx1
          have hA := rhash_any br (s.data.toList ++ l') 0 wb hRb.out
          rw [raw_back s.data.toList l' ho2] at hA
          simp only [mk_data] at hA
          replace hA := Box.mk hA
          replace hx2 := Box.mk hx2
          clear hnx hL ho2 hRb
          go_wp2_with fail
          refine hA.out.mono ?_
          rintro r w2 ⟨rfl, hN2⟩
          have hb2 := hN2.chg.blk hnew.out hne.out
          have e0 : w2.cell? ⟨bo, 0, none⟩ = some (.int .u8 (k.toNat : Int)) := hb2.cell 0
          have e1 : w2.cell? ⟨bo, 1, none⟩ = some (.int .i64 n) := hb2.cell 1
          have e2 : w2.cell? ⟨bo, 2, none⟩ = some (.string s) := hb2.cell 2
          have hE := err_any br l' 0 w2 hN2.at_
          have hfin : Box (Below w.heap.size w w2) := ⟨hBb.out.trans (hN2.chg.below hBb.out.size (by rintro i rfl; exact hlow.out))⟩
          have hR2 := Box.mk hN2.at_
          clear hA hb2 hN2 c0 c1 c2 d0 d1 d2 hnew
          go_wp2_with fail
          refine hE.mono ?_
          rintro r w' ⟨rfl, rfl⟩
          clear hE
          go_wp2_with fail
          exact ⟨⟨i + 1, l', by omega, by go_num, hR2, hx2, hfin⟩, by simp [intOf]; omega⟩
        · rw [hL] at hx2
          subst hx1
          have hA := rhash_any br l 0 wb hRb.out
          rw [raw_short l (by have := congrArg List.length hx2; rw [List.length_append, List.length_singleton] at this; omega)] at hA
          replace hA := Box.mk hA
          replace hx2 := Box.mk hx2
          clear hnx hL ho2 hRb
          go_wp2_with fail
          refine hA.out.mono ?_
          rintro r w2 ⟨rfl, hN2⟩
          have hE := err_any br l 2 w2 hN2.at_
          have hfin : Box (Below w.heap.size w w2) := ⟨hBb.out.trans (hN2.chg.below hBb.out.size (by rintro i rfl; exact hlow.out))⟩
          clear hA hN2 c0 c1 c2 d0 d1 d2 hnew
          go_wp2_with fail
          refine hE.mono ?_
          rintro r w' ⟨rfl, rfl⟩
          clear hE
          go_wp2_with fail
          go_ret
          exact ⟨rfl, hfin.out⟩
    · obtain rfl : i = N := by omega
      have hl' := hl.out
      rw [List.drop_of_length_le (by omega)] at hl'
      obtain ⟨rfl, rfl⟩ : l = [] ∧ tl = [] := by
        have : l ++ tl = [] := hl'
        simpa using this
      have hE := end_any br [] 0 wr hR.out
      rw [show endE [] 0 = 0 from rfl] at hE
      replace hE := Box.mk hE
      clear hl'
      go_wp2_with fail
      refine hE.out.mono ?_
      rintro r w2 ⟨rfl, hN2⟩
      have hfin : Box (Below w.heap.size w w2) := ⟨hB.out.trans (hN2.chg.below hB.out.size (by rintro i rfl; exact hlow.out))⟩
      clear hN2
      go_wp2_with fail
      go_ret
      exact ⟨rfl, hfin.out⟩
end Go.Proofs.Ytnfcgjefliccgaa
