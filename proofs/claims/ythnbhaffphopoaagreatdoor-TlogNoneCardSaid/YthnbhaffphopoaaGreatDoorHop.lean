/- Walks of the program's one, two, secret, links, publicOf. | Walk of the program's digits. -/
import Derived.Test.YthnbhaffphopoaaGreatDoorHre
namespace Go.Proofs.YthnbhaffphopoaaGreatDoor
open Go.RowKit

theorem own_two (w : World) (x y : UInt8) : (w.alloc (.cells #[Value.int .u8 (x.toNat : Int), Value.int .u8 (y.toNat : Int)] 5)).ownsRow w.heap.size 5 1 (.slice (some ⟨w.heap.size, 0, none⟩) 2 2) [x, y].length ([x, y].map yc) :=
  ⟨rfl, Or.inr ⟨w.heap.size, 2, #[Value.int .u8 (x.toNat : Int), Value.int .u8 (y.toNat : Int)], rfl, Nat.le_refl _, heap_alloc_new w _, Nat.le_refl _, by unfold maxLen; omega, rfl, rfl⟩⟩
theorem two_text (w : World) (x y : UInt8) : (convert 47 9 (.slice (some ⟨w.heap.size, 0, none⟩) 2 2)).run Tryz.prog (w.alloc (.cells #[Value.int .u8 (x.toNat : Int), Value.int .u8 (y.toNat : Int)] 5)) = .ok (.string (two x y)) (w.alloc (.cells #[Value.int .u8 (x.toNat : Int), Value.int .u8 (y.toNat : Int)] 5)) := by
  have := own_text (l := [x, y]) (own_two w x y)
  simpa [two] using this
set_option maxHeartbeats 800000 in
set_option maxRecDepth 100000 in
theorem pone_any (i : Nat) (w : World) (hi : i < 256) :
    Calls Tryz.prog 343 #[.int .i64 (i : Int)] w fun e w' => e = .returned (.string (by1 i)) ∧ Below w.heap.size w w' := by
  obtain ⟨x, hx⟩ : ∃ x, UInt8.ofNat i = x := ⟨_, rfl⟩
  have hv : (i : Int) = (x.toNat : Int) := by rw [← hx, UInt8.toNat_ofNat']; omega
  have hcv := one_text w x
  have hB : Box (Below w.heap.size w (w.alloc (.cells #[Value.int .u8 (x.toNat : Int)] 5))) := ⟨(Below.refl _ _).alloc (Nat.le_refl _) _⟩
  have hb : by1 i = one x := by rw [by1, hx]
  rw [hv, hb]
  have hxl : x.toNat < 256 := x.toNat_lt
  clear hx hv hb hi
  go_enter Tryz.func343, Tryz.ntmps343
  go_wp2_with fail
  go_ret
  exact ⟨rfl, hB.out⟩
set_option maxHeartbeats 800000 in
set_option maxRecDepth 100000 in
theorem ptwo_any (n : Nat) (w : World) (hn : n < 65536) :
    Calls Tryz.prog 342 #[.int .i64 (n : Int)] w fun e w' => e = .returned (.string (by2 n)) ∧ Below w.heap.size w w' := by
  obtain ⟨x, hx⟩ : ∃ x, UInt8.ofNat (n / 256) = x := ⟨_, rfl⟩
  obtain ⟨y, hy⟩ : ∃ y, UInt8.ofNat n = y := ⟨_, rfl⟩
  have hv : (n : Int) / 256 = (x.toNat : Int) := by rw [← hx, UInt8.toNat_ofNat']; omega
  have hv2 : (n : Int) % 256 = (y.toNat : Int) := by rw [← hy, UInt8.toNat_ofNat']; omega
  have hcv := two_text w x y
  have hB : Box (Below w.heap.size w (w.alloc (.cells #[Value.int .u8 (x.toNat : Int), Value.int .u8 (y.toNat : Int)] 5))) := ⟨(Below.refl _ _).alloc (Nat.le_refl _) _⟩
  have hb : by2 n = two x y := by rw [by2, hx, hy]
  rw [hb]
  have hxl : x.toNat < 256 := x.toNat_lt
  clear hx hy hb
  go_enter Tryz.func342, Tryz.ntmps342
  go_wp2_with fail
  go_ret
  exact ⟨rfl, hB.out⟩

/-- A new row of texts is a slice of them. -/
theorem parts_new (w : World) (ps : List ByteArray) (t : TypeId) : PartsAt (w.alloc (.cells (ps.map Value.string).toArray t)) (.slice (some ⟨w.heap.size, 0, none⟩) ps.length ps.length) ps := by
  refine ⟨some ⟨w.heap.size, 0, none⟩, ps.length, rfl, fun h0 => ⟨w.heap.size, 0, rfl, by simp, fun i hi => ?_⟩⟩
  rw [cell_of_row _ _ _ _ _ _ (heap_alloc_new w _)]
  simp [List.getD, hi]

set_option maxHeartbeats 800000 in
set_option maxRecDepth 100000 in
theorem psec_any (s : ByteArray) (n i : Nat) (w : World) (hK : KIs w) (hs : s.size ≤ 1125899906842624) (hn : n < 65536) (hi : i < 256) :
    Calls Tryz.prog 314 #[.string s, .int .i64 (n : Int), .int .i64 (i : Int)] w fun e w' => e = .returned (.string (secV s n i)) ∧ Below w.heap.size w w' := by
  have hT := ptwo_any n w hn
  have hO := fun w => pone_any i w hi
  have hsz : (tagL 32 [s, by2 n, by1 i]).length ≤ 1152921504606846976 := by
    have h2 : (by2 n).size = 2 := rfl
    have h1 : (by1 i).size = 1 := rfl
    simp only [tagL, tagP, List.flatMap_cons, List.flatMap_nil, List.length_cons, List.length_append, data_len, be4_length, List.length_nil, h1, h2]
    omega
  have hts := tagS_size 32 [s, by2 n, by1 i]
  have hval : (tagS 32 [s, by2 n, by1 i]).extract 0 16 = secV s n i := rfl
  obtain ⟨ts, hTS⟩ : ∃ ts, tagS 32 [s, by2 n, by1 i] = ts := ⟨_, rfl⟩
  have hTg := fun w1 (hK1 : KIs w1) => stagB_parts 32 (.slice (some ⟨w1.heap.size, 0, none⟩) 3 3) [s, by2 n, by1 i] (w1.alloc (.cells #[.string s, .string (by2 n), .string (by1 i)] 9)) (parts_new w1 [s, by2 n, by1 i] 9) (hK1.below ((Below.refl _ _).alloc (Nat.le_refl _) _) hK1.lt) hsz (by simp)
  rw [show hashOf (tagL 32 [s, by2 n, by1 i]) = ts from hTS] at hTg
  rw [hTS] at hts hval
  replace hK := Box.mk hK
  replace hval := Box.mk hval
  clear hsz hTS
  go_enter Tryz.func314, Tryz.ntmps314
  go_wp2_with fail
  refine hT.mono ?_
  rintro e w1 ⟨rfl, hb1⟩
  clear hT
  replace hb1 := Box.mk hb1
  go_wp2_with fail
  refine (hO w1).mono ?_
  rintro e w2 ⟨rfl, hb2⟩
  clear hO
  have hB2 : Box (Below w.heap.size w w2) := ⟨hb1.out.trans (hb2.mono hb1.out.size)⟩
  have hF := hTg w2 (hK.out.below hB2.out hK.out.lt)
  clear hTg hb1 hb2
  go_wp2_with fail
  refine hF.mono ?_
  rintro e w3 ⟨rfl, hb3⟩
  clear hF
  have hB3 : Box (Below w.heap.size w w3) := ⟨(hB2.out.alloc hB2.out.size _).trans (hb3.mono (by have := hB2.out.size; simp; omega))⟩
  clear hb3
  go_wp2_with fail
  go_ret
  exact ⟨by rw [hval.out]; rfl, hB3.out⟩

set_option maxHeartbeats 1600000 in
set_option maxRecDepth 100000 in
theorem plinks_any (s : ByteArray) (n i a c : Nat) (w : World) (hK : KIs w) (hs : s.size = 16) (hn : n < 65536) (hi : i < 256) (hac : a + c ≤ 15) :
    Calls Tryz.prog 313 #[.string s, .int .i64 (n : Int), .int .i64 (i : Int), .int .i64 (a : Int), .int .i64 ((a + c : Nat) : Int)] w fun e w' => e = .returned (.string (linksV n i a c s)) ∧ Below w.heap.size w w' := by
  obtain ⟨b, hb⟩ : ∃ b, a + c = b := ⟨_, rfl⟩
  rw [hb]
  have hB0 : Box (Below w.heap.size w w) := ⟨Below.refl _ _⟩
  replace hK := Box.mk hK
  go_enter Tryz.func313, Tryz.ntmps313
  go_wp2_with fail
  go_loopw [0, 11] (fun v q wr => ∃ k : Nat, k ≤ c ∧ v = .string (linksV n i a k s) ∧ q = .int .i64 ((a : Int) + (k : Int)) ∧ Box (Below w.heap.size w wr)) (fun _ q _ => b - (intOf q).toNat)
  case atStart => exact ⟨0, by omega, rfl, by simp, hB0⟩
  case round =>
    clear hB0
    obtain ⟨k, hk, rfl, rfl, hB⟩ := hrel
    by_cases hlt : k < c
    · obtain ⟨x, hx⟩ : ∃ x, linksV n i a k s = x := ⟨_, rfl⟩
      have hxs : x.size = 16 := by rw [← hx]; exact linksV_size n i a s hs k
      have hnext : linkV n i (a + k) x = linksV n i a (k + 1) s := by rw [linksV, hx]
      have hT := ptwo_any n wr hn
      have hO := fun w => pone_any i w hi
      have hP := fun w => pone_any (a + k) w (by omega)
      rw [show ((a + k : Nat) : Int) = (a : Int) + (k : Int) by omega] at hP
      have hsz : (tagL 33 [by2 n, by1 i, by1 (a + k), x]).length ≤ 1152921504606846976 := by
        have h2 : (by2 n).size = 2 := rfl
        have h1 : (by1 i).size = 1 := rfl
        have h3 : (by1 (a + k)).size = 1 := rfl
        simp only [tagL, tagP, List.flatMap_cons, List.flatMap_nil, List.length_cons, List.length_append, data_len, be4_length, List.length_nil, h1, h2, h3, hxs]
        omega
      have hts := tagS_size 33 [by2 n, by1 i, by1 (a + k), x]
      have hval : (tagS 33 [by2 n, by1 i, by1 (a + k), x]).extract 0 16 = linksV n i a (k + 1) s := hnext
      obtain ⟨ts, hTS⟩ : ∃ ts, tagS 33 [by2 n, by1 i, by1 (a + k), x] = ts := ⟨_, rfl⟩
      have hTg := fun w1 (hK1 : KIs w1) => stagB_parts 33 (.slice (some ⟨w1.heap.size, 0, none⟩) 4 4) [by2 n, by1 i, by1 (a + k), x] (w1.alloc (.cells #[.string (by2 n), .string (by1 i), .string (by1 (a + k)), .string x] 9)) (parts_new w1 [by2 n, by1 i, by1 (a + k), x] 9) (hK1.below ((Below.refl _ _).alloc (Nat.le_refl _) _) hK1.lt) hsz (by simp)
      rw [show hashOf (tagL 33 [by2 n, by1 i, by1 (a + k), x]) = ts from hTS] at hTg
      rw [hTS] at hts hval
      have hKr : Box (KIs wr) := ⟨hK.out.below hB.out hK.out.lt⟩
      obtain ⟨y, hy⟩ : ∃ y, linksV n i a (k + 1) s = y := ⟨_, rfl⟩
      rw [hy] at hval
      rw [hx]
      replace hval := Box.mk hval
      replace hx := Box.mk hx
      replace hy := Box.mk hy
      clear hsz hTS hnext
      go_wp2_with fail
      refine hT.mono ?_
      rintro e w1 ⟨rfl, hb1⟩
      clear hT
      replace hb1 := Box.mk hb1
      go_wp2_with fail
      refine (hO w1).mono ?_
      rintro e w2 ⟨rfl, hb2⟩
      clear hO
      replace hb2 := Box.mk hb2
      have hB2 : Box (Below w.heap.size w w2) := ⟨(hB.out.trans (hb1.out.mono hB.out.size)).trans (hb2.out.mono (Nat.le_trans hB.out.size hb1.out.size))⟩
      clear hb1 hb2
      go_wp2_with fail
      refine (hP w2).mono ?_
      rintro e w3 ⟨rfl, hb3⟩
      clear hP
      have hB3 : Box (Below w.heap.size w w3) := ⟨hB2.out.trans (hb3.mono hB2.out.size)⟩
      have hF := hTg w3 (hK.out.below hB3.out hK.out.lt)
      clear hTg hb3 hB2
      go_wp2_with fail
      refine hF.mono ?_
      rintro e w4 ⟨rfl, hb4⟩
      clear hF
      have hB4 : Box (Below w.heap.size w w4) := ⟨(hB3.out.alloc hB3.out.size _).trans (hb4.mono (by have := hB3.out.size; simp; omega))⟩
      clear hb4
      go_wp2_with fail
      have hm : b - (intOf (Value.int IntKind.i64 ((a : Int) + (k : Int) + 1))).toNat < b - (intOf (Value.int IntKind.i64 ((a : Int) + (k : Int)))).toNat := by simp [intOf]; omega
      exact ⟨⟨k + 1, by omega, by rw [hval.out, hy.out], u_eq (by omega), hB4⟩, hm⟩
    · obtain rfl : k = c := by omega
      go_wp2_with fail
      go_ret
      exact ⟨rfl, hB.out⟩
set_option maxHeartbeats 800000 in
set_option maxRecDepth 100000 in
theorem ppub_any (s : ByteArray) (w : World) (hK : KIs w) (hs : s.size = 288) :
    Calls Tryz.prog 320 #[.string s] w fun e w' => e = .returned (.string (tagS 35 [s])) ∧ Below w.heap.size w w' := by
  have hsz : (tagL 35 [s]).length ≤ 1152921504606846976 := by
    simp only [tagL, tagP, List.flatMap_cons, List.flatMap_nil, List.length_cons, List.length_append, data_len, be4_length, List.length_nil, hs]
    omega
  have hF := stagB_parts 35 (.slice (some ⟨w.heap.size, 0, none⟩) 1 1) [s] (w.alloc (.cells #[.string s] 9)) (parts_new w [s] 9) (hK.below ((Below.refl _ _).alloc (Nat.le_refl _) _) hK.lt) hsz (by simp)
  rw [show hashOf (tagL 35 [s]) = tagS 35 [s] from rfl] at hF
  have hB : Box (Below w.heap.size w (w.alloc (.cells #[.string s] 9))) := ⟨(Below.refl _ _).alloc (Nat.le_refl _) _⟩
  clear hsz hK
  go_enter Tryz.func320, Tryz.ntmps320
  go_wp2_with fail
  refine hF.mono ?_
  rintro e w3 ⟨rfl, hb3⟩
  clear hF
  have hB3 : Box (Below w.heap.size w w3) := ⟨hB.out.trans (hb3.mono (by simp))⟩
  clear hb3
  go_wp2_with fail
  go_ret
  exact ⟨rfl, hB3.out⟩
end Go.Proofs.YthnbhaffphopoaaGreatDoor

namespace Go.Proofs.YthnbhaffphopoaaGreatDoor
open Go.RowKit

def zeros18 : Array Value := #[Value.int IntKind.i64 0, Value.int IntKind.i64 0, Value.int IntKind.i64 0, Value.int IntKind.i64 0, Value.int IntKind.i64 0, Value.int IntKind.i64 0, Value.int IntKind.i64 0, Value.int IntKind.i64 0, Value.int IntKind.i64 0, Value.int IntKind.i64 0, Value.int IntKind.i64 0, Value.int IntKind.i64 0, Value.int IntKind.i64 0, Value.int IntKind.i64 0, Value.int IntKind.i64 0, Value.int IntKind.i64 0, Value.int IntKind.i64 0, Value.int IntKind.i64 0]
theorem zeros18_eq : (dcell []).toArray = zeros18 := by kernel_rfl
theorem info_d : (Tryz.prog.info? 330).map (·.size) = some 18 := by kernel_rfl
theorem dcell_one (L : List Nat) : (dcell L).toArray.all (·.oneCell') = true := by
  rw [List.all_toArray, List.all_eq_true]; intro v hv; simp only [dcell, List.mem_map] at hv; obtain ⟨x, _, rfl⟩ := hv; rfl
theorem zeros18_blk (w : World) : Blk (w.alloc (.cells zeros18 330)) w.heap.size (dcell []) 330 := by
  have := Blk.new w (dcell []) 330
  rw [zeros18_eq] at this; exact this
theorem dcell_size (L : List Nat) (h : L.length ≤ 18) : (dcell L).toArray.size = 18 := by simp [dcell_length L h]
/-- Two digits laid in. -/
theorem Blk.two {w : World} {b i q r : Nat} {l : List UInt8} (h : Blk w b (dcell (digP l i)) 330) (hi : i < 8) (hq : lo l i / 16 = q) (hr : lo l i % 16 = r) :
    Blk ((w.setCell ⟨b, 2 * i, none⟩ (.int .i64 (q : Int))).setCell ⟨b, 2 * i + 1, none⟩ (.int .i64 (r : Int))) b (dcell (digP l (i + 1))) 330 := by
  have h1 := (h.setCell (2 * i) (.int .i64 (q : Int))).setCell (2 * i + 1) (.int .i64 (r : Int))
  rw [dcell_push _ q (2 * i) (digP_length l i) (by omega), dcell_push _ r (2 * i + 1) (by rw [List.length_append, digP_length]; rfl) (by omega)] at h1
  rw [digP, hq, hr]
  rwa [List.append_assoc] at h1
theorem Blk.last {w : World} {b q r : Nat} {l : List UInt8} (h : Blk w b (dcell (digP l 8)) 330) (hq : lackN l 8 / 16 = q) (hr : lackN l 8 % 16 = r) :
    Blk ((w.setCell ⟨b, 16, none⟩ (.int .i64 (q : Int))).setCell ⟨b, 17, none⟩ (.int .i64 (r : Int))) b (dcell (digs l)) 330 := by
  have h1 := (h.setCell 16 (.int .i64 (q : Int))).setCell 17 (.int .i64 (r : Int))
  rw [dcell_push _ q 16 (digP_length l 8) (by omega), dcell_push _ r 17 (by rw [List.length_append, digP_length]; rfl) (by omega)] at h1
  rw [digs, hq, hr]
  rwa [List.append_assoc] at h1

set_option maxHeartbeats 1600000 in
set_option maxRecDepth 100000 in
theorem phead_any (s : ByteArray) (w : World) (hs : 8 ≤ s.size) :
    Calls Tryz.prog 341 #[.string s] w fun e w' => e = .returned (.agg (dcell (digs s.data.toList)).toArray) ∧ Below w.heap.size w w' := by
  have hB0 : Box (Below w.heap.size w ((w.alloc (.cells zeros18 330)).alloc (.cells zeros18 330))) := ⟨((Below.refl _ _).alloc (Nat.le_refl _) _).alloc (by simp) _⟩
  have hR0 : Box (Blk ((w.alloc (.cells zeros18 330)).alloc (.cells zeros18 330)) w.heap.size (dcell []) 330) := ⟨(zeros18_blk w).alloc _⟩
  have hD0 : Box (Blk ((w.alloc (.cells zeros18 330)).alloc (.cells zeros18 330)) (w.heap.size + 1) (dcell (digP s.data.toList 0)) 330) := ⟨by
    have := zeros18_blk (w.alloc (.cells zeros18 330))
    rwa [show (w.alloc (.cells zeros18 330)).heap.size = w.heap.size + 1 by simp] at this⟩
  go_enter Tryz.func341, Tryz.ntmps341
  go_wp2_with fail
  go_loopw [4, 5, 6, 7, 8] (fun c _ _ _ q wr => ∃ i : Nat, i ≤ 8 ∧ c = .int .i64 (lackN s.data.toList i : Int) ∧ q = .int .i64 (i : Int) ∧ Box (Blk wr w.heap.size (dcell []) 330) ∧ Box (Blk wr (w.heap.size + 1) (dcell (digP s.data.toList i)) 330) ∧ Box (Below w.heap.size w wr)) (fun _ _ _ _ q _ => 8 - (intOf q).toNat)
  case atStart => exact ⟨0, by omega, rfl, rfl, hR0, hD0, hB0⟩
  case round =>
    clear hR0 hD0 hB0
    obtain ⟨i, hi8, rfl, rfl, hR, hD, hB⟩ := hrel
    have hck := lackN_le s.data.toList i
    by_cases hlt : i < 8
    · have hix : i < s.size := by omega
      obtain ⟨b, hb⟩ : ∃ b : Nat, lo s.data.toList i = b := ⟨_, rfl⟩
      have hbl := lo_lt s.data.toList i
      rw [hb] at hbl
      have hge : ((s[i]'hix).toNat : Int) = (b : Int) := by rw [← hb, lo]; simp [List.getD, hix, ByteArray.getElem_eq_getElem_data]
      obtain ⟨q, hq⟩ : ∃ q, b / 16 = q := ⟨_, rfl⟩
      obtain ⟨r, hr⟩ : ∃ r, b % 16 = r := ⟨_, rfl⟩
      have hqr : q ≤ 15 ∧ r ≤ 15 := by omega
      have e0 : wrap64 ((s[i]'hix).toNat : Int) = (b : Int) := by rw [hge]; exact IntWalk.wrap64_in _ (by omega)
      have e1 : wrap64 ((b : Int).tdiv 16) = (q : Int) := by rw [Int.tdiv_eq_ediv_of_nonneg (by omega), IntWalk.wrap64_in _ (by omega)]; omega
      have e2 : (b : Int).tmod 16 = (r : Int) := by rw [Int.tmod_eq_emod_of_nonneg (by omega)]; omega
      obtain ⟨cc, hcc⟩ : ∃ cc, lackN s.data.toList i = cc := ⟨_, rfl⟩
      have hnext : lackN s.data.toList (i + 1) = cc + (15 - q + (15 - r)) := by rw [lackN, hcc, hb, hq, hr]
      have e3 : (b : Int) / 16 = (q : Int) := by omega
      have hbq : lo s.data.toList i / 16 = q := by rw [hb]; exact hq
      have hbr : lo s.data.toList i % 16 = r := by rw [hb]; exact hr
      replace hbq := Box.mk hbq
      replace hbr := Box.mk hbr
      replace hb := Box.mk hb
      replace hcc := Box.mk hcc
      replace hnext := Box.mk hnext
      rw [hcc.out] at hck ⊢
      go_wp2_with fail
      go_quiet (fail)
      have hR5 : Box (Blk (wr.drewN nq) w.heap.size (dcell []) 330) := ⟨hR.out.drewN nq⟩
      have hD5 : Box (Blk (wr.drewN nq) (w.heap.size + 1) (dcell (digP s.data.toList i)) 330) := ⟨hD.out.drewN nq⟩
      have hB5 : Box (Below w.heap.size w (wr.drewN nq)) := ⟨hB.out.trans (Drawn.below ⟨nq, rfl⟩)⟩
      clear hR hD hB
      generalize wr.drewN nq = w5 at *
      have hfz := hD5.out.free (2 * i)
      have hst := hD5.out.cell (2 * i)
      rw [dcell_zero _ _ (by rw [digP_length]; omega) (by omega)] at hst
      have hD6 := (hD5.out.setCell (2 * i) (.int .i64 (q : Int)))
      rw [dcell_push _ q (2 * i) (digP_length _ i) (by omega)] at hD6
      have hfz1 := hD6.free (2 * i + 1)
      have hst1 := hD6.cell (2 * i + 1)
      rw [dcell_zero _ _ (by rw [List.length_append, digP_length]; simp) (by omega)] at hst1
      have hD2 := Box.mk (hD5.out.two (q := q) (r := r) hlt hbq.out hbr.out)
      clear e0 e1 e2 hge hq hr hD6
      go_wp2_with fail
      have hm : 8 - (intOf (Value.int IntKind.i64 (↑i + 1))).toNat < 8 - (intOf (Value.int IntKind.i64 ↑i)).toNat := by simp [intOf]; omega
      refine ⟨⟨i + 1, by omega, ?_, by go_num, ⟨(hR5.out.setCell_other _ _ (by simp)).setCell_other _ _ (by simp)⟩, hD2, ⟨?_⟩⟩, hm⟩
      · rw [hnext.out]; exact u_eq (by omega)
      · exact Below.setCell (B := w.heap.size) (Below.setCell (B := w.heap.size) hB5.out (by simp) _) (by simp) _
    · obtain rfl : i = 8 := by omega
      obtain ⟨cc, hcc⟩ : ∃ cc, lackN s.data.toList 8 = cc := ⟨_, rfl⟩
      obtain ⟨q, hq⟩ : ∃ q, cc / 16 = q := ⟨_, rfl⟩
      obtain ⟨r, hr⟩ : ∃ r, cc % 16 = r := ⟨_, rfl⟩
      rw [hcc] at hck ⊢
      have e3 : (cc : Int) / 16 = (q : Int) := by omega
      have e4 : (cc : Int) % 16 = (r : Int) := by omega
      have hfz := hD.out.free 16
      have hst := hD.out.cell 16
      rw [dcell_zero _ _ (by rw [digP_length]; omega) (by omega)] at hst
      have hD6 := (hD.out.setCell 16 (.int .i64 (q : Int)))
      rw [dcell_push _ q 16 (digP_length _ 8) (by omega)] at hD6
      have hfz1 := hD6.free 17
      have hst1 := hD6.cell 17
      rw [dcell_zero _ _ (by rw [List.length_append, digP_length]; simp) (by omega)] at hst1
      have hD2 := Box.mk (hD.out.last (q := q) (r := r) (by rw [hcc]; exact hq) (by rw [hcc]; exact hr))
      obtain ⟨w3, hw3⟩ : ∃ w3, (wr.setCell ⟨w.heap.size + 1, 16, none⟩ (.int .i64 (q : Int))).setCell ⟨w.heap.size + 1, 17, none⟩ (.int .i64 (r : Int)) = w3 := ⟨_, rfl⟩
      have hR3 : Box (Blk w3 w.heap.size (dcell []) 330) := ⟨by rw [← hw3]; exact (hR.out.setCell_other _ _ (by simp)).setCell_other _ _ (by simp)⟩
      have hB3 : Box (Below w.heap.size w w3) := ⟨by rw [← hw3]; exact Below.setCell (B := w.heap.size) (Below.setCell (B := w.heap.size) hB.out (by simp) _) (by simp) _⟩
      rw [hw3] at hD2
      have hE : Box (Blk (w3.setRow w.heap.size (dcell (digs s.data.toList)).toArray) w.heap.size (dcell (digs s.data.toList)) 330) := ⟨setRow_blk hR3.out _⟩
      have hBe : Box (Below w.heap.size w (w3.setRow w.heap.size (dcell (digs s.data.toList)).toArray)) := ⟨hB3.out.trans ((setRow_save _ _ _ _).below (Nat.le_refl _))⟩
      clear hD hR hB hq hr hD6 hcc
      go_wp2_with (first | (refine wpList_load_row rfl 330 (.tmp 3) rfl (w.heap.size + 1) rfl 330 (dcell (digs s.data.toList)).toArray (0, 0) _ hD2.out Tryz.underlying330 rfl info_d ?_) | (refine wpList_store_row rfl 330 (.tmp 2) (.tmp 44) rfl w.heap.size (dcell (digs s.data.toList)).toArray rfl rfl 330 (dcell []).toArray hR3.out info_d rfl (dcell_one _) ?_))
      refine bodyPost_ret (v := .agg (dcell (digs s.data.toList)).toArray) (results_cell_row (p := 2) rfl _ _ w.heap.size 330 (dcell (digs s.data.toList)).toArray (0, 0) _ rfl hE.out Tryz.underlying330 rfl info_d) rfl ⟨rfl, hBe.out⟩
end Go.Proofs.YthnbhaffphopoaaGreatDoor
