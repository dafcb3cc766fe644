/- Walks of the program's one, two, secret, links, publicOf. | Walk of the program's digits. | Walks of the program's digitsOf, of the three functions that ofChains is given, and of ofChains. | Walks of the program's Public, Sign, Recover. -/
import Derived.Shelf.Abstract
import Derived.Test.YtiblkfkeifnpaaaGreatDoorZre
import Derived.Test.YtiblkfkeifnpaaaGreatDoorZa5
import Derived.Test.YtiblkfkeifnpaaaGreatDoorZl1
set_option linter.all false
namespace Go.Proofs.YtiblkfkeifnpaaaGreatDoor
open Go.RowKit

theorem own_two (w : World) (x y : UInt8) : (w.alloc (.cells #[Value.int .u8 (x.toNat : Int), Value.int .u8 (y.toNat : Int)] 5)).ownsRow w.heap.size 5 1 (.slice (some ⟨w.heap.size, 0, none⟩) 2 2) [x, y].length ([x, y].map yc) :=
  ⟨rfl, Or.inr ⟨w.heap.size, 2, #[Value.int .u8 (x.toNat : Int), Value.int .u8 (y.toNat : Int)], rfl, Nat.le_refl _, heap_alloc_new w _, Nat.le_refl _, by unfold maxLen; omega, rfl, rfl⟩⟩
theorem two_text (w : World) (x y : UInt8) : (convert 52 9 (.slice (some ⟨w.heap.size, 0, none⟩) 2 2)).run Tryz.prog (w.alloc (.cells #[Value.int .u8 (x.toNat : Int), Value.int .u8 (y.toNat : Int)] 5)) = .ok (.string (two x y)) (w.alloc (.cells #[Value.int .u8 (x.toNat : Int), Value.int .u8 (y.toNat : Int)] 5)) := by
  have := own_text (l := [x, y]) (own_two w x y)
  simpa [two] using this
set_option maxHeartbeats 800000 in
set_option maxRecDepth 100000 in
theorem pone_any (i : Nat) (w : World) (hi : i < 256) :
    Calls Tryz.prog 186 #[.int .i64 (i : Int)] w fun e w' => e = .returned (.string (by1 i)) ∧ Below w.heap.size w w' := by
  obtain ⟨x, hx⟩ : ∃ x, UInt8.ofNat i = x := ⟨_, rfl⟩
  have hv : (i : Int) = (x.toNat : Int) := by rw [← hx, UInt8.toNat_ofNat']; omega
  have hcv := one_text w x
  have hB : Box (Below w.heap.size w (w.alloc (.cells #[Value.int .u8 (x.toNat : Int)] 5))) := ⟨(Below.refl _ _).alloc (Nat.le_refl _) _⟩
  have hb : by1 i = one x := by rw [by1, hx]
  rw [hv, hb]
  have hxl : x.toNat < 256 := x.toNat_lt
  clear hx hv hb hi
  go_enter Tryz.func186, Tryz.ntmps186
  go_wp2_with fail
  go_ret
  exact ⟨rfl, hB.out⟩
set_option maxHeartbeats 800000 in
set_option maxRecDepth 100000 in
theorem ptwo_any (n : Nat) (w : World) (hn : n < 65536) :
    Calls Tryz.prog 185 #[.int .i64 (n : Int)] w fun e w' => e = .returned (.string (by2 n)) ∧ Below w.heap.size w w' := by
  obtain ⟨x, hx⟩ : ∃ x, UInt8.ofNat (n / 256) = x := ⟨_, rfl⟩
  obtain ⟨y, hy⟩ : ∃ y, UInt8.ofNat n = y := ⟨_, rfl⟩
  have hv : (n : Int) / 256 = (x.toNat : Int) := by rw [← hx, UInt8.toNat_ofNat']; omega
  have hv2 : (n : Int) % 256 = (y.toNat : Int) := by rw [← hy, UInt8.toNat_ofNat']; omega
  have hcv := two_text w x y
  have hB : Box (Below w.heap.size w (w.alloc (.cells #[Value.int .u8 (x.toNat : Int), Value.int .u8 (y.toNat : Int)] 5))) := ⟨(Below.refl _ _).alloc (Nat.le_refl _) _⟩
  have hb : by2 n = two x y := by rw [by2, hx, hy]
  rw [hb]
  have hxl : x.toNat < 256 := x.toNat_lt
  clear hx hy hb
  go_enter Tryz.func185, Tryz.ntmps185
  go_wp2_with fail
  go_ret
  exact ⟨rfl, hB.out⟩

/-- A new row of texts is a slice of them. -/
theorem parts_new (w : World) (ps : List ByteArray) (t : TypeId) : PartsAt (w.alloc (.cells (ps.map Value.string).toArray t)) (.slice (some ⟨w.heap.size, 0, none⟩) ps.length ps.length) ps := by
  refine ⟨some ⟨w.heap.size, 0, none⟩, ps.length, rfl, fun h0 => ⟨w.heap.size, 0, rfl, by simp, fun i hi => ?_⟩⟩
  rw [cell_of_row _ _ _ _ _ _ (heap_alloc_new w _)]
  simp [List.getD, hi]

set_option maxHeartbeats 1600000 in
set_option maxRecDepth 100000 in
theorem plinks_any (s : ByteArray) (n i a c : Nat) (w : World) (hK : KIs w) (hs : s.size = 16) (hn : n < 65536) (hi : i < 256) (hac : a + c ≤ 15) :
    Calls Tryz.prog 177 #[.string s, .int .i64 (n : Int), .int .i64 (i : Int), .int .i64 (a : Int), .int .i64 ((a + c : Nat) : Int)] w fun e w' => e = .returned (.string (linksV n i a c s)) ∧ Below w.heap.size w w' := by
  obtain ⟨b, hb⟩ : ∃ b, a + c = b := ⟨_, rfl⟩
  rw [hb]
  have hB0 : Box (Below w.heap.size w w) := ⟨Below.refl _ _⟩
  replace hK := Box.mk hK
  go_enter Tryz.func177, Tryz.ntmps177
  go_wp2_with fail
  go_loopw [0, 11] (fun v q wr => ∃ k : Nat, k ≤ c ∧ v = .string (linksV n i a k s) ∧ q = .int .i64 ((a : Int) + (k : Int)) ∧ Box (Below w.heap.size w wr)) (fun _ q _ => b - (intOf q).toNat)
  case atStart => exact ⟨0, by omega, rfl, by simp, hB0⟩
  case round =>
    clear hB0
    obtain ⟨k, hk, rfl, rfl, hB⟩ := hrel
    by_cases hlt : k < c
    · obtain ⟨x, hx⟩ : ∃ x, linksV n i a k s = x := ⟨_, rfl⟩
      have hxs : x.size = 16 := by rw [← hx]; exact linksV_size n i a s hs k
      have hnext : linkV n i (a + k) x = linksV n i a (k + 1) s := by rw [linksV, hx]
      have hT := ptwo_any n wr hn
      have hO := fun w => pone_any i w hi
      have hP := fun w => pone_any (a + k) w (by omega)
      rw [show ((a + k : Nat) : Int) = (a : Int) + (k : Int) by omega] at hP
      have hsz : (tagL 33 [by2 n, by1 i, by1 (a + k), x]).length ≤ 1152921504606846976 := by
        have h2 : (by2 n).size = 2 := rfl
        have h1 : (by1 i).size = 1 := rfl
        have h3 : (by1 (a + k)).size = 1 := rfl
        simp only [tagL, tagP, List.flatMap_cons, List.flatMap_nil, List.length_cons, List.length_append, data_len, be4_length, List.length_nil, h1, h2, h3, hxs]
        omega
      have hts := tagS_size 33 [by2 n, by1 i, by1 (a + k), x]
      have hval : (tagS 33 [by2 n, by1 i, by1 (a + k), x]).extract 0 16 = linksV n i a (k + 1) s := hnext
      obtain ⟨ts, hTS⟩ : ∃ ts, tagS 33 [by2 n, by1 i, by1 (a + k), x] = ts := ⟨_, rfl⟩
      have hTg := fun w1 (hK1 : KIs w1) => stagB_parts 33 (.slice (some ⟨w1.heap.size, 0, none⟩) 4 4) [by2 n, by1 i, by1 (a + k), x] (w1.alloc (.cells #[.string (by2 n), .string (by1 i), .string (by1 (a + k)), .string x] 9)) (parts_new w1 [by2 n, by1 i, by1 (a + k), x] 9) (hK1.below ((Below.refl _ _).alloc (Nat.le_refl _) _) hK1.lt) hsz (by simp)
      rw [show hashOf (tagL 33 [by2 n, by1 i, by1 (a + k), x]) = ts from hTS] at hTg
      rw [hTS] at hts hval
      have hKr : Box (KIs wr) := ⟨hK.out.below hB.out hK.out.lt⟩
      obtain ⟨y, hy⟩ : ∃ y, linksV n i a (k + 1) s = y := ⟨_, rfl⟩
      rw [hy] at hval
      rw [hx]
      replace hval := Box.mk hval
      replace hx := Box.mk hx
      replace hy := Box.mk hy
      clear hsz hTS hnext
      go_wp2_with fail
      refine hT.mono ?_
      rintro e w1 ⟨rfl, hb1⟩
      clear hT
      replace hb1 := Box.mk hb1
      go_wp2_with fail
      refine (hO w1).mono ?_
      rintro e w2 ⟨rfl, hb2⟩
      clear hO
      replace hb2 := Box.mk hb2
      have hB2 : Box (Below w.heap.size w w2) := ⟨(hB.out.trans (hb1.out.mono hB.out.size)).trans (hb2.out.mono (Nat.le_trans hB.out.size hb1.out.size))⟩
      clear hb1 hb2
      go_wp2_with fail
      refine (hP w2).mono ?_
      rintro e w3 ⟨rfl, hb3⟩
      clear hP
      have hB3 : Box (Below w.heap.size w w3) := ⟨hB2.out.trans (hb3.mono hB2.out.size)⟩
      have hF := hTg w3 (hK.out.below hB3.out hK.out.lt)
      clear hTg hb3 hB2
      go_wp2_with fail
      refine hF.mono ?_
      rintro e w4 ⟨rfl, hb4⟩
      clear hF
      have hB4 : Box (Below w.heap.size w w4) := ⟨(hB3.out.alloc hB3.out.size _).trans (hb4.mono (by have := hB3.out.size; simp; omega))⟩
      clear hb4
      go_wp2_with fail
      have hm : b - (intOf (Value.int IntKind.i64 ((a : Int) + (k : Int) + 1))).toNat < b - (intOf (Value.int IntKind.i64 ((a : Int) + (k : Int)))).toNat := by simp [intOf]; omega
      exact ⟨⟨k + 1, by omega, by rw [hval.out, hy.out], u_eq (by omega), hB4⟩, hm⟩
    · obtain rfl : k = c := by omega
      go_wp2_with fail
      go_ret
      exact ⟨rfl, hB.out⟩
set_option maxHeartbeats 800000 in
set_option maxRecDepth 100000 in
theorem ppub_any (s : ByteArray) (w : World) (hK : KIs w) (hs : s.size = 288) :
    Calls Tryz.prog 174 #[.string s] w fun e w' => e = .returned (.string (tagS 35 [s])) ∧ Below w.heap.size w w' := by
  have hsz : (tagL 35 [s]).length ≤ 1152921504606846976 := by
    simp only [tagL, tagP, List.flatMap_cons, List.flatMap_nil, List.length_cons, List.length_append, data_len, be4_length, List.length_nil, hs]
    omega
  have hF := stagB_parts 35 (.slice (some ⟨w.heap.size, 0, none⟩) 1 1) [s] (w.alloc (.cells #[.string s] 9)) (parts_new w [s] 9) (hK.below ((Below.refl _ _).alloc (Nat.le_refl _) _) hK.lt) hsz (by simp)
  rw [show hashOf (tagL 35 [s]) = tagS 35 [s] from rfl] at hF
  have hB : Box (Below w.heap.size w (w.alloc (.cells #[.string s] 9))) := ⟨(Below.refl _ _).alloc (Nat.le_refl _) _⟩
  clear hsz hK
  go_enter Tryz.func174, Tryz.ntmps174
  go_wp2_with fail
  refine hF.mono ?_
  rintro e w3 ⟨rfl, hb3⟩
  clear hF
  have hB3 : Box (Below w.heap.size w w3) := ⟨hB.out.trans (hb3.mono (by simp))⟩
  clear hb3
  go_wp2_with fail
  go_ret
  exact ⟨rfl, hB3.out⟩
end Go.Proofs.YtiblkfkeifnpaaaGreatDoor

namespace Go.Proofs.YtiblkfkeifnpaaaGreatDoor
open Go.RowKit

def zeros18 : Array Value := #[Value.int IntKind.i64 0, Value.int IntKind.i64 0, Value.int IntKind.i64 0, Value.int IntKind.i64 0, Value.int IntKind.i64 0, Value.int IntKind.i64 0, Value.int IntKind.i64 0, Value.int IntKind.i64 0, Value.int IntKind.i64 0, Value.int IntKind.i64 0, Value.int IntKind.i64 0, Value.int IntKind.i64 0, Value.int IntKind.i64 0, Value.int IntKind.i64 0, Value.int IntKind.i64 0, Value.int IntKind.i64 0, Value.int IntKind.i64 0, Value.int IntKind.i64 0]
theorem zeros18_eq : (dcell []).toArray = zeros18 := by kernel_rfl
theorem info_d : (Tryz.prog.info? 142).map (·.size) = some 18 := by kernel_rfl
theorem dcell_one (L : List Nat) : (dcell L).toArray.all (·.oneCell') = true := by
  rw [List.all_toArray, List.all_eq_true]; intro v hv; simp only [dcell, List.mem_map] at hv; obtain ⟨x, _, rfl⟩ := hv; rfl
theorem zeros18_blk (w : World) : Blk (w.alloc (.cells zeros18 142)) w.heap.size (dcell []) 142 := by
  have := Blk.new w (dcell []) 142
  rw [zeros18_eq] at this; exact this
theorem dcell_size (L : List Nat) (h : L.length ≤ 18) : (dcell L).toArray.size = 18 := by simp [dcell_length L h]
/-- Two digits laid in. -/
theorem Blk.two {w : World} {b i q r : Nat} {l : List UInt8} (h : Blk w b (dcell (digP l i)) 142) (hi : i < 8) (hq : lo l i / 16 = q) (hr : lo l i % 16 = r) :
    Blk ((w.setCell ⟨b, 2 * i, none⟩ (.int .i64 (q : Int))).setCell ⟨b, 2 * i + 1, none⟩ (.int .i64 (r : Int))) b (dcell (digP l (i + 1))) 142 := by
  have h1 := (h.setCell (2 * i) (.int .i64 (q : Int))).setCell (2 * i + 1) (.int .i64 (r : Int))
  rw [dcell_push _ q (2 * i) (digP_length l i) (by omega), dcell_push _ r (2 * i + 1) (by rw [List.length_append, digP_length]; rfl) (by omega)] at h1
  rw [digP, hq, hr]
  rwa [List.append_assoc] at h1
theorem Blk.last {w : World} {b q r : Nat} {l : List UInt8} (h : Blk w b (dcell (digP l 8)) 142) (hq : lackN l 8 / 16 = q) (hr : lackN l 8 % 16 = r) :
    Blk ((w.setCell ⟨b, 16, none⟩ (.int .i64 (q : Int))).setCell ⟨b, 17, none⟩ (.int .i64 (r : Int))) b (dcell (digs l)) 142 := by
  have h1 := (h.setCell 16 (.int .i64 (q : Int))).setCell 17 (.int .i64 (r : Int))
  rw [dcell_push _ q 16 (digP_length l 8) (by omega), dcell_push _ r 17 (by rw [List.length_append, digP_length]; rfl) (by omega)] at h1
  rw [digs, hq, hr]
  rwa [List.append_assoc] at h1

set_option maxHeartbeats 1600000 in
set_option maxRecDepth 100000 in
theorem phead_any (s : ByteArray) (w : World) (hs : 8 ≤ s.size) :
    Calls Tryz.prog 184 #[.string s] w fun e w' => e = .returned (.agg (dcell (digs s.data.toList)).toArray) ∧ Below w.heap.size w w' := by
  have hB0 : Box (Below w.heap.size w ((w.alloc (.cells zeros18 142)).alloc (.cells zeros18 142))) := ⟨((Below.refl _ _).alloc (Nat.le_refl _) _).alloc (by simp) _⟩
  have hR0 : Box (Blk ((w.alloc (.cells zeros18 142)).alloc (.cells zeros18 142)) w.heap.size (dcell []) 142) := ⟨(zeros18_blk w).alloc _⟩
  have hD0 : Box (Blk ((w.alloc (.cells zeros18 142)).alloc (.cells zeros18 142)) (w.heap.size + 1) (dcell (digP s.data.toList 0)) 142) := ⟨by
    have := zeros18_blk (w.alloc (.cells zeros18 142))
    rwa [show (w.alloc (.cells zeros18 142)).heap.size = w.heap.size + 1 by simp] at this⟩
  go_enter Tryz.func184, Tryz.ntmps184
  go_wp2_with fail
  go_loopw [4, 5, 6, 7, 8] (fun c _ _ _ q wr => ∃ i : Nat, i ≤ 8 ∧ c = .int .i64 (lackN s.data.toList i : Int) ∧ q = .int .i64 (i : Int) ∧ Box (Blk wr w.heap.size (dcell []) 142) ∧ Box (Blk wr (w.heap.size + 1) (dcell (digP s.data.toList i)) 142) ∧ Box (Below w.heap.size w wr)) (fun _ _ _ _ q _ => 8 - (intOf q).toNat)
  case atStart => exact ⟨0, by omega, rfl, rfl, hR0, hD0, hB0⟩
  case round =>
    clear hR0 hD0 hB0
    obtain ⟨i, hi8, rfl, rfl, hR, hD, hB⟩ := hrel
    have hck := lackN_le s.data.toList i
    by_cases hlt : i < 8
    · have hix : i < s.size := by omega
      obtain ⟨b, hb⟩ : ∃ b : Nat, lo s.data.toList i = b := ⟨_, rfl⟩
      have hbl := lo_lt s.data.toList i
      rw [hb] at hbl
      have hge : ((s[i]'hix).toNat : Int) = (b : Int) := by rw [← hb, lo]; simp [List.getD, hix, ByteArray.getElem_eq_getElem_data]
      obtain ⟨q, hq⟩ : ∃ q, b / 16 = q := ⟨_, rfl⟩
      obtain ⟨r, hr⟩ : ∃ r, b % 16 = r := ⟨_, rfl⟩
      have hqr : q ≤ 15 ∧ r ≤ 15 := by omega
      have e0 : wrap64 ((s[i]'hix).toNat : Int) = (b : Int) := by rw [hge]; exact IntWalk.wrap64_in _ (by omega)
      have e1 : wrap64 ((b : Int).tdiv 16) = (q : Int) := by rw [Int.tdiv_eq_ediv_of_nonneg (by omega), IntWalk.wrap64_in _ (by omega)]; omega
      have e2 : (b : Int).tmod 16 = (r : Int) := by rw [Int.tmod_eq_emod_of_nonneg (by omega)]; omega
      obtain ⟨cc, hcc⟩ : ∃ cc, lackN s.data.toList i = cc := ⟨_, rfl⟩
      have hnext : lackN s.data.toList (i + 1) = cc + (15 - q + (15 - r)) := by rw [lackN, hcc, hb, hq, hr]
      have e3 : (b : Int) / 16 = (q : Int) := by omega
      have hbq : lo s.data.toList i / 16 = q := by rw [hb]; exact hq
      have hbr : lo s.data.toList i % 16 = r := by rw [hb]; exact hr
      replace hbq := Box.mk hbq
      replace hbr := Box.mk hbr
      replace hb := Box.mk hb
      replace hcc := Box.mk hcc
      replace hnext := Box.mk hnext
      rw [hcc.out] at hck ⊢
      go_wp2_with fail
      go_quiet (fail)
      have hR5 : Box (Blk (wr.drewN nq) w.heap.size (dcell []) 142) := ⟨hR.out.drewN nq⟩
      have hD5 : Box (Blk (wr.drewN nq) (w.heap.size + 1) (dcell (digP s.data.toList i)) 142) := ⟨hD.out.drewN nq⟩
      have hB5 : Box (Below w.heap.size w (wr.drewN nq)) := ⟨hB.out.trans (Drawn.below ⟨nq, rfl⟩)⟩
      clear hR hD hB
      generalize wr.drewN nq = w5 at *
      have hfz := hD5.out.free (2 * i)
      have hst := hD5.out.cell (2 * i)
      rw [dcell_zero _ _ (by rw [digP_length]; omega) (by omega)] at hst
      have hD6 := (hD5.out.setCell (2 * i) (.int .i64 (q : Int)))
      rw [dcell_push _ q (2 * i) (digP_length _ i) (by omega)] at hD6
      have hfz1 := hD6.free (2 * i + 1)
      have hst1 := hD6.cell (2 * i + 1)
      rw [dcell_zero _ _ (by rw [List.length_append, digP_length]; simp) (by omega)] at hst1
      have hD2 := Box.mk (hD5.out.two (q := q) (r := r) hlt hbq.out hbr.out)
      clear e0 e1 e2 hge hq hr hD6
      go_wp2_with fail
      have hm : 8 - (intOf (Value.int IntKind.i64 (↑i + 1))).toNat < 8 - (intOf (Value.int IntKind.i64 ↑i)).toNat := by simp [intOf]; omega
      refine ⟨⟨i + 1, by omega, ?_, by go_num, ⟨(hR5.out.setCell_other _ _ (by simp)).setCell_other _ _ (by simp)⟩, hD2, ⟨?_⟩⟩, hm⟩
      · rw [hnext.out]; exact u_eq (by omega)
      · exact Below.setCell (B := w.heap.size) (Below.setCell (B := w.heap.size) hB5.out (by simp) _) (by simp) _
    · obtain rfl : i = 8 := by omega
      obtain ⟨cc, hcc⟩ : ∃ cc, lackN s.data.toList 8 = cc := ⟨_, rfl⟩
      obtain ⟨q, hq⟩ : ∃ q, cc / 16 = q := ⟨_, rfl⟩
      obtain ⟨r, hr⟩ : ∃ r, cc % 16 = r := ⟨_, rfl⟩
      rw [hcc] at hck ⊢
      have e3 : (cc : Int) / 16 = (q : Int) := by omega
      have e4 : (cc : Int) % 16 = (r : Int) := by omega
      have hfz := hD.out.free 16
      have hst := hD.out.cell 16
      rw [dcell_zero _ _ (by rw [digP_length]; omega) (by omega)] at hst
      have hD6 := (hD.out.setCell 16 (.int .i64 (q : Int)))
      rw [dcell_push _ q 16 (digP_length _ 8) (by omega)] at hD6
      have hfz1 := hD6.free 17
      have hst1 := hD6.cell 17
      rw [dcell_zero _ _ (by rw [List.length_append, digP_length]; simp) (by omega)] at hst1
      have hD2 := Box.mk (hD.out.last (q := q) (r := r) (by rw [hcc]; exact hq) (by rw [hcc]; exact hr))
      obtain ⟨w3, hw3⟩ : ∃ w3, (wr.setCell ⟨w.heap.size + 1, 16, none⟩ (.int .i64 (q : Int))).setCell ⟨w.heap.size + 1, 17, none⟩ (.int .i64 (r : Int)) = w3 := ⟨_, rfl⟩
      have hR3 : Box (Blk w3 w.heap.size (dcell []) 142) := ⟨by rw [← hw3]; exact (hR.out.setCell_other _ _ (by simp)).setCell_other _ _ (by simp)⟩
      have hB3 : Box (Below w.heap.size w w3) := ⟨by rw [← hw3]; exact Below.setCell (B := w.heap.size) (Below.setCell (B := w.heap.size) hB.out (by simp) _) (by simp) _⟩
      rw [hw3] at hD2
      have hE : Box (Blk (w3.setRow w.heap.size (dcell (digs s.data.toList)).toArray) w.heap.size (dcell (digs s.data.toList)) 142) := ⟨setRow_blk hR3.out _⟩
      have hBe : Box (Below w.heap.size w (w3.setRow w.heap.size (dcell (digs s.data.toList)).toArray)) := ⟨hB3.out.trans ((setRow_save _ _ _ _).below (Nat.le_refl _))⟩
      clear hD hR hB hq hr hD6 hcc
      go_wp2_with (first | (refine wpList_load_row rfl 142 (.tmp 3) rfl (w.heap.size + 1) rfl 142 (dcell (digs s.data.toList)).toArray (0, 0) _ hD2.out Tryz.underlying142 rfl info_d ?_) | (refine wpList_store_row rfl 142 (.tmp 2) (.tmp 44) rfl w.heap.size (dcell (digs s.data.toList)).toArray rfl rfl 142 (dcell []).toArray hR3.out info_d rfl (dcell_one _) ?_))
      refine bodyPost_ret (v := .agg (dcell (digs s.data.toList)).toArray) (results_cell_row (p := 2) rfl _ _ w.heap.size 142 (dcell (digs s.data.toList)).toArray (0, 0) _ rfl hE.out Tryz.underlying142 rfl info_d) rfl ⟨rfl, hBe.out⟩
end Go.Proofs.YtiblkfkeifnpaaaGreatDoor

namespace Go.Proofs.YtiblkfkeifnpaaaGreatDoor
open Go Go.RowKit

theorem quiet_any {P : Program} {ops : Array Oper} {C : World → Prop} {Q : Act → Prop} {a : Act} {o : Oper} {rest : List Oper} (hw : Region.wanted o (yielded ops a.tmps) = true) (v : Value)
    (hv : ∀ w, C w → (execOp a.eval o).run P w = .ok (.value v) w) (h : wpQuiet P ops C Q rest (a.put o.dst v)) : wpQuiet P ops C Q (o :: rest) a := by
  unfold wpQuiet
  simp only [hw, if_true]
  refine ⟨v, fun w hC => ?_, h⟩
  unfold Oper.quietAt
  simp [hv w hC, Oper.quietUpon]

theorem head8 (t : ByteArray) : digs ((tagS 34 [t]).extract 0 8).data.toList = digs (headL t) := by
  refine digs_congr fun i hi => ?_
  have h : ((tagS 34 [t]).extract 0 8).data.toList = (headL t).take 8 := by
    rw [ByteArray.data_extract, Array.toList_extract, List.extract_eq_take_drop]; rfl
  rw [h]
  simp [List.getD, List.getElem?_take_of_lt hi]
theorem tag1_len (k : UInt8) (t : ByteArray) (h : t.size ≤ 1125899906842624) : (tagL k [t]).length ≤ 1152921504606846976 := by
  simp only [tagL, tagP, List.flatMap_cons, List.flatMap_nil, List.length_cons, List.length_append, data_len, be4_length, List.length_nil]
  omega

set_option maxHeartbeats 800000 in
set_option maxRecDepth 100000 in
theorem pdigits_any (t : ByteArray) (w : World) (hK : KIs w) (ht : t.size ≤ 1125899906842624) :
    Calls Tryz.prog 173 #[.string t] w fun e w' => e = .returned (.agg (dcell (digs (headL t))).toArray) ∧ Below w.heap.size w w' := by
  have hW1 : Below w.heap.size w (w.alloc (.cells zeros18 142)) := (Below.refl _ _).alloc (Nat.le_refl _) _
  have hR1 : Box (Blk (w.alloc (.cells zeros18 142)) w.heap.size (dcell []) 142) := ⟨zeros18_blk w⟩
  have hs1 : (w.alloc (.cells zeros18 142)).heap.size = w.heap.size + 1 := by simp
  have hF := stagB_parts 34 (.slice (some ⟨w.heap.size + 1, 0, none⟩) 1 1) [t] ((w.alloc (.cells zeros18 142)).alloc (.cells #[.string t] 9)) (by have := parts_new (w.alloc (.cells zeros18 142)) [t] 9; rw [hs1] at this; exact this) (hK.below (hW1.alloc (by simp) _) hK.lt) (tag1_len 34 t ht) (by simp)
  obtain ⟨ts, hTS⟩ : ∃ ts, tagS 34 [t] = ts := ⟨_, rfl⟩
  rw [show hashOf (tagL 34 [t]) = ts from hTS] at hF
  have hts : ts.size = 32 := by rw [← hTS]; exact tagS_size _ _
  have hdg := head8 t
  rw [hTS] at hdg
  have hdl := digs_length (headL t)
  obtain ⟨dg, hdd⟩ : ∃ dg, digs (headL t) = dg := ⟨_, rfl⟩
  rw [hdd] at hdg hdl ⊢
  have hinfo : (Tryz.prog.info? 142).map (·.size) = some (dcell dg).toArray.size := by rw [dcell_size dg (by omega)]; exact info_d
  have hdsz : (dcell []).toArray.size = (dcell dg).toArray.size := by rw [dcell_size dg (by omega)]; rfl
  clear hdl
  have hH := fun w => phead_any (ts.extract 0 8) w (by rw [ByteArray.size_extract, hts]; decide)
  rw [hdg] at hH
  have hW2 := Box.mk (hW1.alloc (by simp) (.cells #[.string t] 9))
  replace hTS := Box.mk hTS
  replace hdd := Box.mk hdd
  clear hdg hK hW1
  go_enter Tryz.func173, Tryz.ntmps173
  go_wp2_with fail
  refine hF.mono ?_
  rintro e w3 ⟨rfl, hb3⟩
  clear hF
  have hB3 : Box (Below w.heap.size w w3) := ⟨hW2.out.trans (hb3.mono (by simp; omega))⟩
  have hR3 : Box (Blk w3 w.heap.size (dcell []) 142) := ⟨(hR1.out.alloc _).below hb3 (by simp; omega)⟩
  clear hb3 hR1 hW2
  go_wp2_with fail
  refine (hH w3).mono ?_
  rintro e w4 ⟨rfl, hb4⟩
  clear hH
  have hlt4 := hR3.out.lt
  have hB4 : Box (Below w.heap.size w w4) := ⟨hB3.out.trans (hb4.mono hB3.out.size)⟩
  have hR4 : Box (Blk w4 w.heap.size (dcell []) 142) := ⟨hR3.out.below hb4 hlt4⟩
  have hE : Box (Blk (w4.setRow w.heap.size (dcell dg).toArray) w.heap.size (dcell dg) 142) := ⟨setRow_blk hR4.out _⟩
  have hBe : Box (Below w.heap.size w (w4.setRow w.heap.size (dcell dg).toArray)) := ⟨hB4.out.trans ((setRow_save _ _ _ _).below (Nat.le_refl _))⟩
  clear hB3 hR3 hb4 hlt4
  go_wp2_with (refine wpList_store_row rfl 142 (.tmp 2) (.tmp 7) rfl w.heap.size (dcell dg).toArray rfl rfl 142 (dcell []).toArray hR4.out hinfo hdsz (dcell_one _) ?_)
  refine bodyPost_ret (v := .agg (dcell dg).toArray) (results_cell_row (p := 2) rfl _ _ w.heap.size 142 (dcell dg).toArray (0, 0) _ rfl hE.out Tryz.underlying142 rfl hinfo) rfl ⟨rfl, hBe.out⟩

set_option maxHeartbeats 800000 in
set_option maxRecDepth 100000 in
theorem crec_any (s t : ByteArray) (n i b1 b2 b3 : Nat) (w : World) (hK : KIs w) (hs : s.size = 288) (hn : n < 65536) (hi : i < 18)
    (c1 : w.cell? ⟨b1, 0, none⟩ = some (.string s)) (c2 : w.cell? ⟨b2, 0, none⟩ = some (.int .i64 (n : Int))) (hb3 : Blk w b3 (dcell (digs (headL t))) 142) :
    Calls Tryz.prog 176 #[.int .i64 (i : Int), .pointer (some ⟨b1, 0, none⟩), .pointer (some ⟨b2, 0, none⟩), .pointer (some ⟨b3, 0, none⟩)] w fun e w' => e = .returned (.string (recV n t s i)) ∧ Below w.heap.size w w' := by
  obtain ⟨x, hx⟩ : ∃ x, s.extract (16 * i) (16 * i + 16) = x := ⟨_, rfl⟩
  have hxs : x.size = 16 := by rw [← hx]; exact cut_size s i hs hi
  have hdl := dig_le (headL t) i
  have hL := fun w1 (hK1 : KIs w1) => plinks_any x n i (dig (headL t) i) (15 - dig (headL t) i) w1 hK1 hxs hn (by omega) (by omega)
  rw [← hx, show linksV n i (dig (headL t) i) (15 - dig (headL t) i) (s.extract (16 * i) (16 * i + 16)) = recV n t s i from rfl, hx, show dig (headL t) i + (15 - dig (headL t) i) = 15 by omega] at hL
  obtain ⟨y, hy⟩ : ∃ y, recV n t s i = y := ⟨_, rfl⟩
  have c3 : w.cell? ⟨b3, i, none⟩ = some (.int .i64 (dig (headL t) i : Int)) := by rw [hb3.cell, dcell_get _ (digs_length _) i hi]; rfl
  obtain ⟨d, hd⟩ : ∃ d, dig (headL t) i = d := ⟨_, rfl⟩
  rw [hy] at hL ⊢
  rw [hd] at hL c3 hdl
  have hF := hL w.drew hK
  have hBd : Box (Below w.heap.size w w.drew) := ⟨Drawn.below ⟨1, rfl⟩⟩
  have d2 : w.drew.cell? ⟨b2, 0, none⟩ = some (.int .i64 (n : Int)) := c2
  have d3 : w.drew.cell? ⟨b3, i, none⟩ = some (.int .i64 (d : Int)) := c3
  have e1 : ((i : Int) * 16).toNat = 16 * i := by omega
  have e2 : (((i : Int) + 1) * 16).toNat = 16 * i + 16 := by omega
  replace hy := Box.mk hy
  replace hd := Box.mk hd
  clear hL hK hb3
  go_enter Tryz.func176, Tryz.ntmps176
  go_wp2_with fail
  refine region_go (C := fun w' => w'.cell? ⟨b2, 0, none⟩ = some (.int .i64 (n : Int)) ∧ w'.cell? ⟨b3, i, none⟩ = some (.int .i64 (d : Int))) rfl ?_
  refine go_calms [0, 1, 2, 3, 4, 5] 2 rfl (by kernel_rfl) (by kernel_rfl) (by kernel_rfl) ⟨d2, d3⟩ ?_
  simp [nth]
  try simp only [Act.put]
  repeat (go_big_quiet_step (first | exact fun _ => rfl | rfl))
  refine quiet_any rfl (.int .i64 (n : Int)) (fun w' hw' => by have h := hw'.1; go_simp) ?_
  simp only [Act.put, List.setIfInBounds_toArray, List.set_cons_succ, List.set_cons_zero]
  repeat (go_big_quiet_step (first | exact fun _ => rfl | rfl))
  refine quiet_any rfl (.pointer (some ⟨b3, i, none⟩)) (fun w' hw' => by go_simp; intro h; omega) ?_
  simp only [Act.put, List.setIfInBounds_toArray, List.set_cons_succ, List.set_cons_zero]
  refine quiet_any rfl (.int .i64 (d : Int)) (fun w' hw' => by have h := hw'.2; go_simp) ?_
  simp only [Act.put, List.setIfInBounds_toArray, List.set_cons_succ, List.set_cons_zero]
  refine wpQuiet_nil ?_
  have hl2 : b2 < w.heap.size := block_lt_of_cell c2
  have hl3 : b3 < w.heap.size := block_lt_of_cell c3
  refine go_forced 6 (by kernel_rfl) (goOp_wp 6 rfl rfl (fun K hK => ?_))
  go_simp
  refine hF.mono ?_
  rintro e w2 ⟨rfl, hb2⟩
  have hB2 : Box (Below w.heap.size w w2) := ⟨hBd.out.trans (hb2.mono hBd.out.size)⟩
  have C2 : w2.cell? ⟨b2, 0, none⟩ = some (.int .i64 (n : Int)) ∧ w2.cell? ⟨b3, i, none⟩ = some (.int .i64 (d : Int)) := ⟨by rw [hB2.out.cell (p := ⟨b2, 0, none⟩) hl2]; exact c2, by rw [hB2.out.cell (p := ⟨b3, i, none⟩) hl3]; exact c3⟩
  refine hK _ _ C2 ?_
  clear hK K hF hb2
  refine go_calms [7] 0 rfl (by kernel_rfl) (by kernel_rfl) (by kernel_rfl) C2 ?_
  simp [nth]
  try simp only [Act.put, List.setIfInBounds_toArray, List.set_cons_succ, List.set_cons_zero]
  repeat (go_big_quiet_step (first | exact fun _ => rfl | rfl))
  refine wpQuiet_nil ?_
  refine go_done (by kernel_rfl) ?_
  go_simp
  go_wp2_with fail
  go_ret
  exact ⟨rfl, hB2.out⟩

theorem ownsRow_below {w w' : World} {B : Nat} {e : TypeId} {s : Nat} {v : Value} {n : Nat} {xs : List Value} (h : w.ownsRow B e s v n xs) (hb : Below w.heap.size w w') : w'.ownsRow B e s v n xs := by
  obtain ⟨h1, h2⟩ := h
  refine ⟨h1, ?_⟩
  rcases h2 with h2 | ⟨g, cap, cur, hv, hg, hh, r⟩
  · exact Or.inl h2
  · refine Or.inr ⟨g, cap, cur, hv, hg, ?_, r⟩
    have hlt : g < w.heap.size := by
      rcases Nat.lt_or_ge g w.heap.size with h | h
      · exact h
      · rw [Array.getElem?_eq_none h] at hh; cases hh
    rw [hb.block g hlt]; exact hh
theorem builder_below {T e : TypeId} {B b : Nat} {bs : List Value} {w w' : World} (h : Lib.IsBuilder T e B b bs w) (hb : Below w.heap.size w w') : Lib.IsBuilder T e B b bs w' := by
  have key : ∀ p, Lib.BuilderAt T e B b p bs w → Lib.BuilderAt T e B b p bs w' := fun p h => by
    have hlt := h.lt
    obtain ⟨h1, v, h2, h3, h4⟩ := h
    exact ⟨h1, v, (hb.block b hlt).trans h2, ownsRow_below h3 hb, h4⟩
  rcases h with h | h
  · exact Or.inl (key _ h)
  · exact Or.inr (key _ h)

set_option maxHeartbeats 1600000 in
set_option maxRecDepth 100000 in
/-- ofChains, given a function that answers g chain by chain. -/
theorem chains_any (k : FuncId) (ek : Enters Tryz.prog k) (caps : Array Value) (g : Nat → ByteArray) (hg : ∀ i, (g i).size = 16) (w : World)
    (hG : ∀ i, i < 18 → ∀ w', Below w.heap.size w w' → Calls Tryz.prog k (#[.int .i64 (i : Int)] ++ caps) w' fun e w'' => e = .returned (.string (g i)) ∧ Below w'.heap.size w' w'') :
    Calls Tryz.prog 175 #[.func (.func k) #[] caps] w fun e w' => e = .returned (.string (accT g 18)) ∧ Below w.heap.size w w' := by
  have hI0 : Box (Lib.IsBuilder 170 5 w.heap.size w.heap.size (Lib.byteCells (accL g 0)) (w.alloc (.cells #[.pointer none, .slice none 0 0] 170))) := ⟨Lib.fresh_isBuilder _ _ w⟩
  have hB0 : Box (Below w.heap.size w (w.alloc (.cells #[.pointer none, .slice none 0 0] 170))) := ⟨(Below.refl _ _).alloc (Nat.le_refl _) _⟩
  replace hG := Box.mk hG
  unfold Enters at ek
  go_enter Tryz.func175, Tryz.ntmps175
  go_wp2_with fail
  go_loopw [4, 5] (fun _ q wr => ∃ i : Nat, i ≤ 18 ∧ q = .int .i64 (i : Int) ∧ Box (Lib.IsBuilder 170 5 w.heap.size w.heap.size (Lib.byteCells (accL g i)) wr) ∧ Box (Below w.heap.size w wr)) (fun _ q _ => 18 - (intOf q).toNat)
  case atStart => exact ⟨0, by omega, rfl, hI0, hB0⟩
  case round =>
    clear hI0 hB0
    obtain ⟨i, hi, rfl, hI, hB⟩ := hrel
    by_cases hlt : i < 18
    · have hF := hG.out i hlt wr hB.out
      have hgi := hg i
      have hal := accL_length g hg i
      have hnext : Box (Lib.byteCells (accL g i) ++ Lib.strCells (g i) = Lib.byteCells (accL g (i + 1))) := ⟨by rw [accL, Lib.byteCells_append]; rfl⟩
      obtain ⟨y, hy⟩ : ∃ y, g i = y := ⟨_, rfl⟩
      rw [hy] at hF hnext hgi
      replace hy := Box.mk hy
      go_wp2_with fail
      refine hF.mono ?_
      clear hF
      rintro e w1 ⟨rfl, hb1⟩
      have hI1 := builder_below hI.out hb1
      have hB1 : Box (Below w.heap.size w w1) := ⟨hB.out.trans (hb1.mono hB.out.size)⟩
      have hW := Tryz.Builder_WriteString w.heap.size w.heap.size _ y w1 hI1 (by rw [Lib.byteCells_length, hal, hgi]; omega) hB1.out.size
      rw [hnext.out] at hW
      clear hI1 hb1 hI hB hal
      go_wp2_with fail
      refine hW.mono ?_
      clear hW
      rintro e w2 ⟨rfl, hA, hb2⟩
      have hI2 : Box (Lib.IsBuilder 170 5 w.heap.size w.heap.size (Lib.byteCells (accL g (i + 1))) w2) := ⟨.inr hA⟩
      have hB2 : Box (Below w.heap.size w w2) := ⟨hB1.out.trans hb2⟩
      clear hA hb2 hB1 hnext
      go_wp2_with fail
      have hm : 18 - (intOf (Value.int IntKind.i64 (↑i + 1))).toNat < 18 - (intOf (Value.int IntKind.i64 ↑i)).toNat := by simp [intOf]; omega
      exact ⟨⟨i + 1, by omega, by go_num, hI2, hB2⟩, hm⟩
    · obtain rfl : i = 18 := by omega
      have hSt := Tryz.Builder_String_any w.heap.size w.heap.size (accL g 18) wr hI.out hB.out.size
      rw [show (⟨(accL g 18).toArray⟩ : ByteArray) = accT g 18 from rfl] at hSt
      clear hI hG
      go_wp2_with fail
      refine hSt.mono ?_
      clear hSt
      rintro e w2 ⟨rfl, hb2⟩
      have hB2 : Box (Below w.heap.size w w2) := ⟨hB.out.trans hb2⟩
      clear hB hb2
      go_wp2_with fail
      go_ret
      exact ⟨rfl, hB2.out⟩
end Go.Proofs.YtiblkfkeifnpaaaGreatDoor

namespace Go.Proofs.YtiblkfkeifnpaaaGreatDoor
open Go Go.RowKit

theorem enters_rec : Enters Tryz.prog 176 := enters_of Tryz.func176 (by kernel_rfl) rfl

set_option maxHeartbeats 800000 in
set_option maxRecDepth 100000 in
theorem isnum_yes (n : Nat) (w : World) (hn : n < 65536) :
    Calls Tryz.prog 172 #[.int .i64 (n : Int)] w fun e w' => e = .returned (.bool true) ∧ w = w' := by
  go_enter Tryz.func172, Tryz.ntmps172
  go_wp2_with fail
  go_ret
  exact ⟨by simp; omega, rfl⟩
/-- The digits' row, laid in a new variable. -/
theorem digits_var (w : World) (t : ByteArray) : Below w.heap.size w ((w.alloc (.cells zeros18 142)).setRow w.heap.size (dcell (digs (headL t))).toArray) ∧ Blk ((w.alloc (.cells zeros18 142)).setRow w.heap.size (dcell (digs (headL t))).toArray) w.heap.size (dcell (digs (headL t))) 142 :=
  ⟨((Below.refl _ _).alloc (Nat.le_refl _) _).trans ((setRow_save _ _ _ _).below (Nat.le_refl _)), setRow_blk (zeros18_blk w) _⟩
theorem dig_info (t : ByteArray) : (Tryz.prog.info? 142).map (·.size) = some (dcell (digs (headL t))).toArray.size := by rw [dcell_size _ (by rw [digs_length]; exact Nat.le_refl _)]; exact info_d
theorem dig_size (t : ByteArray) : zeros18.size = (dcell (digs (headL t))).toArray.size := by rw [dcell_size _ (by rw [digs_length]; exact Nat.le_refl _)]; rfl

theorem two_cells2 (w : World) (s : ByteArray) (n : Int) : ∃ w1, (w.alloc (.cells #[.int .i64 n] 3)).alloc (.cells #[.string s] 9) = w1 ∧ Below w.heap.size w w1 ∧ w1.heap.size = w.heap.size + 2 ∧ w1.cell? ⟨w.heap.size, 0, none⟩ = some (.int .i64 n) ∧ w1.cell? ⟨w.heap.size + 1, 0, none⟩ = some (.string s) := by
  refine ⟨_, rfl, ((Below.refl _ _).alloc (Nat.le_refl _) _).alloc (by simp) _, by simp, ((Blk.new w [.int .i64 n] 3).alloc (.cells #[.string s] 9)).cell 0, ?_⟩
  have := (Blk.new (w.alloc (.cells #[.int .i64 n] 3)) [.string s] 9).cell 0
  rwa [show (w.alloc (.cells #[.int .i64 n] 3)).heap.size = w.heap.size + 1 by simp] at this
set_option maxHeartbeats 1600000 in
set_option maxRecDepth 100000 in
theorem recover_ok (t q : ByteArray) (n : Nat) (w : World) (hK : KIs w) (hn : n < 65536) (hq : q.size = 288) (ht : t.size ≤ 1125899906842624) :
    Calls Tryz.prog 159 #[.int .i64 (n : Int), .string t, .string q] w fun e w' => e = .returned (.tuple #[.string (recT n t q), .int .i64 0]) ∧ Below w.heap.size w w' := by
  have hN := fun w => isnum_yes n w hn
  obtain ⟨w1, hw1, hB1, hs1, c1, c2⟩ := two_cells2 w q n
  have hD := pdigits_any t w1 (hK.below hB1 hK.lt) ht
  have hC := fun w2 (hb2 : Below w1.heap.size w1 w2) b3 (hb3 : Blk w2 b3 (dcell (digs (headL t))) 142) => chains_any 176 enters_rec #[.pointer (some ⟨w.heap.size + 1, 0, none⟩), .pointer (some ⟨w.heap.size, 0, none⟩), .pointer (some ⟨b3, 0, none⟩)] (fun i => if i < 18 then recV n t q i else secV t n i) (fun i => by
      show (if i < 18 then recV n t q i else secV t n i).size = 16
      split
      · exact linksV_size _ _ _ _ (cut_size q i hq (by assumption)) _
      · exact secV_size _ _ _) w2 (fun i hi w' hb => by
    rw [if_pos hi]
    exact crec_any q t n i (w.heap.size + 1) w.heap.size b3 w' (hK.below ((hB1.trans (hb2.mono hB1.size)).trans (hb.mono (Nat.le_trans hB1.size hb2.size))) hK.lt) hq hn hi
      ((hb.cell (p := ⟨w.heap.size + 1, 0, none⟩) (by have := hb2.size; simp; omega)).trans ((hb2.cell (p := ⟨w.heap.size + 1, 0, none⟩) (by simp; omega)).trans c2)) ((hb.cell (p := ⟨w.heap.size, 0, none⟩) (by have := hb2.size; simp; omega)).trans ((hb2.cell (p := ⟨w.heap.size, 0, none⟩) (by simp; omega)).trans c1)) (hb3.below hb hb3.lt))
  have hac : accT (fun i => if i < 18 then recV n t q i else secV t n i) 18 = accT (recV n t q) 18 := accT_congr 18 fun i hi => if_pos hi
  have has : (accT (recV n t q) 18).size = 288 := by
    rw [← hac]
    refine accT_size _ (fun i => ?_) 18
    show (if i < 18 then recV n t q i else secV t n i).size = 16
    split
    · exact linksV_size _ _ _ _ (cut_size q i hq (by assumption)) _
    · exact secV_size _ _ _
  have hP := fun w2 (hK2 : KIs w2) => ppub_any (accT (recV n t q) 18) w2 hK2 has
  rw [hac] at hC
  have hV := fun w => digits_var w t
  have hdi := dig_info t
  have hds := dig_size t
  obtain ⟨dg, hdd⟩ : ∃ dg, digs (headL t) = dg := ⟨_, rfl⟩
  rw [hdd] at hD hC hV hdi hds
  rw [show tagS 35 [accT (recV n t q) 18] = recT n t q from rfl] at hP
  obtain ⟨x, hx⟩ : ∃ x, accT (recV n t q) 18 = x := ⟨_, rfl⟩
  obtain ⟨y, hy⟩ : ∃ y, recT n t q = y := ⟨_, rfl⟩
  rw [hx] at hC hP
  rw [hy] at hP ⊢
  replace hB1 := Box.mk hB1
  replace hx := Box.mk hx
  replace hy := Box.mk hy
  replace hdd := Box.mk hdd
  replace hC := Box.mk hC
  replace hV := Box.mk hV
  have hsB := Box.mk hs1
  have hKB := Box.mk hK
  clear hK hn ht hs1 hac has
  go_enter Tryz.func159, Tryz.ntmps159
  go_wp2_with fail
  refine (hN _).mono ?_
  rintro e w' ⟨rfl, rfl⟩
  clear hN
  go_wp2_with fail
  refine hD.mono ?_
  clear hD
  rintro e w2 ⟨rfl, hb2⟩
  obtain ⟨q1, q2⟩ := hV.out w2
  have hZ : Box (Blk (w2.alloc (.cells zeros18 142)) w2.heap.size (dcell []) 142) := ⟨zeros18_blk w2⟩
  have hb3 : Below w1.heap.size w1 ((w2.alloc (.cells zeros18 142)).setRow w2.heap.size (dcell dg).toArray) := hb2.trans (q1.mono hb2.size)
  have hF := hC.out _ hb3 _ q2
  have hB3 : Box (Below w.heap.size w ((w2.alloc (.cells zeros18 142)).setRow w2.heap.size (dcell dg).toArray)) := ⟨hB1.out.trans (hb3.mono hB1.out.size)⟩
  clear hC hV q1 q2 hb2 hb3
  go_wp2_with (refine wpList_store_row rfl 142 (.tmp 8) (.tmp 18) rfl w2.heap.size (dcell dg).toArray rfl rfl 142 zeros18 hZ.out hdi hds (dcell_one _) ?_)
  refine hF.mono ?_
  clear hF
  rintro e w3 ⟨rfl, hb3⟩
  have hB4 : Box (Below w.heap.size w w3) := ⟨hB3.out.trans (hb3.mono hB3.out.size)⟩
  have hF := hP w3 (hKB.out.below hB4.out hKB.out.lt)
  clear hb3 hB3 hZ hP
  go_wp2_with fail
  refine hF.mono ?_
  clear hF
  rintro e w4 ⟨rfl, hb4⟩
  have hB5 : Box (Below w.heap.size w w4) := ⟨hB4.out.trans (hb4.mono hB4.out.size)⟩
  clear hb4 hB4
  go_wp2_with fail
  go_returns
  exact ⟨rfl, hB5.out⟩
end Go.Proofs.YtiblkfkeifnpaaaGreatDoor
