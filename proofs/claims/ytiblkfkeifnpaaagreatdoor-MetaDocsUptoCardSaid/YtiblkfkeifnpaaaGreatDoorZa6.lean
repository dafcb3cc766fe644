/- Walk of sha.Hex. | Walk of sha.Unhex. | Walks of the document's Unhex and Hex. | Walk of the first line of each law of this layer: the document's first example. -/
import Derived.Test.YtiblkfkeifnpaaaGreatDoorZa1
import Derived.Test.YtiblkfkeifnpaaaGreatDoorZa5
set_option linter.all false
namespace Go.Proofs.YtiblkfkeifnpaaaGreatDoor
open Go.RowKit

def digit (n : Nat) : UInt8 := if n < 10 then UInt8.ofNat (48 + n) else UInt8.ofNat (87 + n)
def hexB (x : UInt8) : List UInt8 := [digit (x.toNat / 16), digit (x.toNat % 16)]
def hexL (l : List UInt8) : List UInt8 := l.flatMap hexB
def hexLit : ByteArray := { data := #[48, 49, 50, 51, 52, 53, 54, 55, 56, 57, 97, 98, 99, 100, 101, 102] }
theorem hexLit_get (n : Nat) (h : n < hexLit.size) : hexLit[n] = digit n := by
  have : ∀ n : Fin 16, hexLit[n.val]'(n.isLt) = digit n.val := by decide
  exact this ⟨n, h⟩
theorem get_take (s : ByteArray) (i : Nat) (h : i < s.size) : s.data.toList.take (i + 1) = s.data.toList.take i ++ [s[i]] := by
  rw [List.take_succ_eq_append_getElem (by simpa using h)]; rfl
theorem hexL_snoc (l : List UInt8) (x d1 d2 : UInt8) (h1 : digit (x.toNat / 16) = d1) (h2 : digit (x.toNat % 16) = d2) : (hexL (l ++ [x])).map yc = (hexL l).map yc ++ [Value.int .u8 (d1.toNat : Int), Value.int .u8 (d2.toNat : Int)] := by
  subst h1 h2
  simp [hexL, hexB, List.flatMap_append, yc, Y]
theorem hexL_length (l : List UInt8) : (hexL l).length = 2 * l.length := by
  induction l with
  | nil => rfl
  | cons x l ih =>
    show (hexB x ++ hexL l).length = _
    rw [List.length_append, ih]; simp [hexB]; omega
/-- A row of bytes that the call owns, as a text. -/
theorem own_text {w : World} {base : Nat} {v : Value} {l : List UInt8} (h : w.ownsRow base 5 1 v l.length (l.map yc)) :
    (convert 52 9 v).run Tryz.prog w = .ok (.string ⟨l.toArray⟩) w := by
  obtain ⟨hl, ⟨rfl, hx⟩ | ⟨g, cap, cur, rfl, hg, hh, hn, _, hsz, hcur⟩⟩ := h
  · have hl0 : l = [] := by simpa using hx
    subst hl0
    exact run_convert_bytes_nil (P := Tryz.prog) w 52 5 Tryz.underlying52 Tryz.underlying5 _ _ 9 Tryz.underlying9
  · have hlen : cur.toList.length = cap := by rw [Array.length_toList, hsz]; omega
    have hc : ∀ i, i < l.length → w.cell? ⟨g, 0 + i, none⟩ = some (.int .u8 ((l.map Y).getD i 0)) := by
      intro i hi
      have h1 : (cur.toList.take (l.length * 1))[i]? = (l.map yc)[i]? := by rw [hcur]
      rw [List.getElem?_take_of_lt (by omega), List.getElem?_map] at h1
      rw [Nat.zero_add, cell_of_row w g i cur _ _ hh, ← Array.getElem?_toList, h1]
      simp [hi, yc, List.getD]
    have := run_convert_bytes_arg (P := Tryz.prog) w 52 5 Tryz.underlying52 Tryz.underlying5 g 0 l.length cap (l.map Y) (by simp) hc 9 Tryz.underlying9
    rw [Y_back] at this; exact this
theorem info5 : (Tryz.prog.info? 5).map (fun i => (i.zero, i.size, i.bytes)) = some (some (.int .u8 0), 1, 1) := by kernel_rfl

set_option maxHeartbeats 800000 in
set_option maxRecDepth 100000 in
theorem hex_any (s : ByteArray) (w : World) (hs : s.size ≤ 35184372088832) :
    Calls Tryz.prog 135 #[.string s] w fun e w' => e = .returned (.string ⟨(hexL s.data.toList).toArray⟩) ∧ Below w.heap.size w w' := by
  obtain ⟨i0, hi, hz0, hz1, hz2⟩ := info_parts info5
  have e1 : Box ((2 : Int) * (s.size : Int) = ((2 * s.size : Nat) : Int)) := ⟨by omega⟩
  have e2 : Box (i0.bytes * (2 * s.size) ≤ 281474976710656) := ⟨by rw [hz2]; omega⟩
  have e3 : Box (2 * s.size ≤ maxLen) := ⟨by unfold maxLen; omega⟩
  have HI := Box.mk hi
  have H0 := Box.mk hz0
  have H1 := Box.mk hz1
  have H2 := Box.mk hz2
  clear hi hz0 hz1 hz2
  go_enter Tryz.func135, Tryz.ntmps135
  go_wp2_with (refine wpList_make_own _ rfl (.const (.int .i64 0)) (.tmp 7) 52 rfl w.heap.size 5 i0 (.int .u8 0) 1 Tryz.underlying52 HI.out H0.out H1.out .i64 .i64 _ (2 * s.size) rfl rfl e1.out e2.out e3.out (Nat.le_refl _) ?_; intro w1 hO1 hG1; have hO1' := Box.mk hO1; have hB1 := Box.mk ((Below.refl w.heap.size w).grown hG1 (Nat.le_refl _) (by intro k hk; cases hk)); clear hO1 hG1)
  go_loopw [3, 4, 11] (fun s3 _ q wr => ∃ i : Nat, i ≤ s.size ∧ q = .int .i64 i ∧ Box (wr.ownsRow w.heap.size 5 1 s3 (2 * i) ((hexL (s.data.toList.take i)).map yc)) ∧ Box (Below w.heap.size w wr)) (fun _ _ q _ => s.size - (intOf q).toNat)
  case atStart => exact ⟨0, by omega, rfl, hO1', hB1⟩
  case round =>
    clear hO1' hB1
    obtain ⟨i, hi, rfl, hO, hB⟩ := hrel
    by_cases hlt : i < s.size
    · obtain ⟨x, hx⟩ : ∃ x, s[i] = x := ⟨_, rfl⟩
      have hxl := x.toNat_lt
      have b1 : (0 : Int) ≤ (x.toNat : Int) / 16 ∧ (x.toNat : Int) / 16 < 16 := by omega
      have b2 : (0 : Int) ≤ (x.toNat : Int) % 16 ∧ (x.toNat : Int) % 16 < 16 := by omega
      have b3 : bits .and .u8 (x.toNat : Int) 15 = (x.toNat : Int) % 16 := u8_and15 _ (by omega) (by omega)
      go_wp2_with fail
      refine region_calm_tail (C := fun _ => True) 11 (by kernel_rfl) (by kernel_rfl) (by kernel_rfl) True.intro ?_
      simp only [List.take_succ_cons, List.take_zero, List.drop_succ_cons, List.drop_zero]
      repeat (go_big_quiet_step (first | exact fun _ => rfl | rfl))
      refine wpQuiet_nil ?_
      have g1 : ∀ h, ({ data := #[48, 49, 50, 51, 52, 53, 54, 55, 56, 57, 97, 98, 99, 100, 101, 102] } : ByteArray)[x.toNat / 16]'h = digit (x.toNat / 16) := fun h => hexLit_get _ h
      have g2 : ∀ h, ({ data := #[48, 49, 50, 51, 52, 53, 54, 55, 56, 57, 97, 98, 99, 100, 101, 102] } : ByteArray)[x.toNat % 16]'h = digit (x.toNat % 16) := fun h => hexLit_get _ h
      simp only [g1, g2]
      clear g1 g2
      obtain ⟨d1, hd1⟩ : ∃ d, digit (x.toNat / 16) = d := ⟨_, rfl⟩
      obtain ⟨d2, hd2⟩ : ∃ d, digit (x.toNat % 16) = d := ⟨_, rfl⟩
      simp only [hd1, hd2]
      replace hd1 := Box.mk hd1
      replace hd2 := Box.mk hd2
      replace hx := Box.mk hx
      clear b1 b2 b3
      refine chain_step rfl (fun K hK => ?_)
      go_simp
      refine hK _ _ True.intro ?_
      clear hK K
      refine chain_step rfl (fun K hK => ?_)
      have hO2 : (wr.alloc (.cells #[Value.int IntKind.u8 ↑d1.toNat, Value.int IntKind.u8 ↑d2.toNat] 5)).drew.ownsRow w.heap.size 5 1 u3 (2 * i) ((hexL (s.data.toList.take i)).map yc) := hO.out.alloc _
      have c1 : ∀ j u, [Value.int IntKind.u8 (d1.toNat : Int), Value.int IntKind.u8 (d2.toNat : Int)][j]? = some u → (wr.alloc (.cells #[Value.int IntKind.u8 (d1.toNat : Int), Value.int IntKind.u8 (d2.toNat : Int)] 5)).drew.cell? ((⟨wr.heap.size, 0, none⟩ : Addr).add j) = some u := by
        intro j u hj
        have hadd : (⟨wr.heap.size, 0, none⟩ : Addr).add j = ⟨wr.heap.size, j, none⟩ := by unfold Addr.add; split <;> simp_all
        rw [hadd]
        show (wr.alloc _).cell? _ = _
        rw [World.cell?_alloc_at _ _ _ _ rfl]
        simpa using hj
      have c2 : ∀ u ∈ [Value.int IntKind.u8 (d1.toNat : Int), Value.int IntKind.u8 (d2.toNat : Int)], u.oneCell' = true := by
        intro u hu; simp at hu; obtain rfl | rfl := hu <;> rfl
      have c3 : 2 * i + 2 ≤ maxLen := by unfold maxLen; omega
      have c4 : (2 * i + 2) * 1 ≤ 140737488355328 := by omega
      have c5 : w.heap.size ≤ (wr.alloc (.cells #[Value.int IntKind.u8 ↑d1.toNat, Value.int IntKind.u8 ↑d2.toNat] 5)).drew.heap.size := by
        have := hB.out.size
        show _ ≤ (wr.alloc _).heap.size
        simp; omega
      refine wp_append_own _ (.tmp 14) (.tmp 25) 52 rfl w.heap.size 5 i0 (.int .u8 0) 1 1 Tryz.underlying52 HI.out H0.out H1.out H2.out rfl (by decide) _ (2 * i) _ rfl hO2 ⟨wr.heap.size, 0, none⟩ 2 2 [Value.int IntKind.u8 ↑d1.toNat, Value.int IntKind.u8 ↑d2.toNat] rfl rfl c1 c2 c3 c4 c5 ?_
      intro v2 w2 hO3 hG3 _
      refine hK _ _ True.intro ?_
      clear hK K c1 c2 c3 c4 c5
      refine chain_step rfl (fun K hK => ?_)
      go_simp
      refine hK _ _ True.intro ?_
      clear hK K
      refine chain_nil ?_
      have hB3 : Box (Below w.heap.size w w2) := by
        have h1 := (hB.out.alloc hB.out.size (.cells #[Value.int IntKind.u8 ↑d1.toNat, Value.int IntKind.u8 ↑d2.toNat] 5)).drew
        refine ⟨h1.grown hG3 ?_ ?_⟩
        · have := hB.out.size
          show _ ≤ (wr.alloc _).heap.size
          simp; omega
        · intro k hk; exact (hO.out.lt k hk).1
      replace hO3 := Box.mk hO3
      clear hG3 hO2
      go_wp2_with fail
      have hm : s.size - (intOf (Value.int IntKind.i64 (↑i + 1))).toNat < s.size - (intOf (Value.int IntKind.i64 ↑i)).toNat := by simp [intOf]; omega
      refine ⟨⟨i + 1, by omega, by go_num, ⟨?_⟩, hB3⟩, hm⟩
      rw [get_take s i hlt, hx.out, hexL_snoc _ _ _ _ hd1.out hd2.out, show 2 * (i + 1) = 2 * i + 2 by omega]
      exact hO3.out
    · obtain rfl : i = s.size := by omega
      have ht : s.data.toList.take s.size = s.data.toList := List.take_of_length_le (by rw [data_len]; omega)
      have hO' := hO.out
      rw [ht] at hO'
      have hl : (hexL s.data.toList).length = 2 * s.size := by rw [hexL_length, data_len]
      rw [← hl] at hO'
      have hcv := own_text hO'
      clear hO hO' hl ht
      go_wp2_with fail
      go_returns
      exact ⟨rfl, hB.out⟩
end Go.Proofs.YtiblkfkeifnpaaaGreatDoor

namespace Go.Proofs.YtiblkfkeifnpaaaGreatDoor
open Go.RowKit

theorem byte_new (w : World) (x : UInt8) : ∀ j, j < [x].length → (w.alloc (.cells #[Value.int .u8 (x.toNat : Int)] 5)).cell? ⟨w.heap.size, j, none⟩ = ([x].map yc)[j]? := by
  intro j hj
  obtain rfl : j = 0 := by simpa using hj
  rw [World.cell?_alloc_at _ _ _ _ rfl]; rfl

end Go.Proofs.YtiblkfkeifnpaaaGreatDoor

namespace Go.Proofs.YtiblkfkeifnpaaaGreatDoor
open Go.RowKit

set_option maxHeartbeats 800000 in
set_option maxRecDepth 100000 in
theorem rhex_any (s : ByteArray) (w : World) (hs : s.size ≤ 35184372088832) :
    Calls Tryz.prog 90 #[.string s] w fun e w' => e = .returned (.string ⟨(hexL s.data.toList).toArray⟩) ∧ Below w.heap.size w w' := by
  obtain ⟨i0, hi, hz0, hz1, hz2⟩ := info_parts info5
  have HI := Box.mk hi
  have H0 := Box.mk hz0
  have H1 := Box.mk hz1
  have H2 := Box.mk hz2
  clear hi hz0 hz1 hz2
  have hO1' : Box (w.ownsRow w.heap.size 5 1 (.slice none 0 0) (2 * 0) ((hexL (s.data.toList.take 0)).map yc)) := ⟨World.ownsRow_nil w _ _ _⟩
  have hB1 : Box (Below w.heap.size w w) := ⟨Below.refl _ _⟩
  go_enter Tryz.func90, Tryz.ntmps90
  go_wp2_with fail
  go_loopw [4, 5] (fun s3 q wr => ∃ i : Nat, i ≤ s.size ∧ q = .int .i64 i ∧ Box (wr.ownsRow w.heap.size 5 1 s3 (2 * i) ((hexL (s.data.toList.take i)).map yc)) ∧ Box (Below w.heap.size w wr)) (fun _ q _ => s.size - (intOf q).toNat)
  case atStart => exact ⟨0, by omega, rfl, hO1', hB1⟩
  case round =>
    clear hO1' hB1
    obtain ⟨i, hi, rfl, hO, hB⟩ := hrel
    by_cases hlt : i < s.size
    · obtain ⟨x, hx⟩ : ∃ x, s[i] = x := ⟨_, rfl⟩
      have hxl := x.toNat_lt
      have b1 : (0 : Int) ≤ (x.toNat : Int) / 16 ∧ (x.toNat : Int) / 16 < 16 := by omega
      have b2 : (0 : Int) ≤ (x.toNat : Int) % 16 ∧ (x.toNat : Int) % 16 < 16 := by omega
      go_wp2_with fail
      refine region_calm_tail (C := fun _ => True) 13 (by kernel_rfl) (by kernel_rfl) (by kernel_rfl) True.intro ?_
      simp only [List.take_succ_cons, List.take_zero, List.drop_succ_cons, List.drop_zero]
      repeat (go_big_quiet_step (first | exact fun _ => rfl | rfl))
      refine wpQuiet_nil ?_
      have g1 : ∀ h, ({ data := #[48, 49, 50, 51, 52, 53, 54, 55, 56, 57, 97, 98, 99, 100, 101, 102] } : ByteArray)[x.toNat / 16]'h = digit (x.toNat / 16) := fun h => hexLit_get _ h
      have g2 : ∀ h, ({ data := #[48, 49, 50, 51, 52, 53, 54, 55, 56, 57, 97, 98, 99, 100, 101, 102] } : ByteArray)[x.toNat % 16]'h = digit (x.toNat % 16) := fun h => hexLit_get _ h
      simp only [g1, g2]
      clear g1 g2
      obtain ⟨d1, hd1⟩ : ∃ d, digit (x.toNat / 16) = d := ⟨_, rfl⟩
      obtain ⟨d2, hd2⟩ : ∃ d, digit (x.toNat % 16) = d := ⟨_, rfl⟩
      simp only [hd1, hd2]
      replace hd1 := Box.mk hd1
      replace hd2 := Box.mk hd2
      replace hx := Box.mk hx
      clear b1 b2
      refine chain_step rfl (fun K hK => ?_)
      go_simp
      refine hK _ _ True.intro ?_
      clear hK K
      refine chain_step rfl (fun K hK => ?_)
      have hO2 : (wr.alloc (.cells #[Value.int IntKind.u8 ↑d1.toNat, Value.int IntKind.u8 ↑d2.toNat] 5)).drew.ownsRow w.heap.size 5 1 u4 (2 * i) ((hexL (s.data.toList.take i)).map yc) := hO.out.alloc _
      have c1 : ∀ j u, [Value.int IntKind.u8 (d1.toNat : Int), Value.int IntKind.u8 (d2.toNat : Int)][j]? = some u → (wr.alloc (.cells #[Value.int IntKind.u8 (d1.toNat : Int), Value.int IntKind.u8 (d2.toNat : Int)] 5)).drew.cell? ((⟨wr.heap.size, 0, none⟩ : Addr).add j) = some u := by
        intro j u hj
        have hadd : (⟨wr.heap.size, 0, none⟩ : Addr).add j = ⟨wr.heap.size, j, none⟩ := by unfold Addr.add; split <;> simp_all
        rw [hadd]
        show (wr.alloc _).cell? _ = _
        rw [World.cell?_alloc_at _ _ _ _ rfl]
        simpa using hj
      have c2 : ∀ u ∈ [Value.int IntKind.u8 (d1.toNat : Int), Value.int IntKind.u8 (d2.toNat : Int)], u.oneCell' = true := by
        intro u hu; simp at hu; obtain rfl | rfl := hu <;> rfl
      have c3 : 2 * i + 2 ≤ maxLen := by unfold maxLen; omega
      have c4 : (2 * i + 2) * 1 ≤ 140737488355328 := by omega
      have c5 : w.heap.size ≤ (wr.alloc (.cells #[Value.int IntKind.u8 ↑d1.toNat, Value.int IntKind.u8 ↑d2.toNat] 5)).drew.heap.size := by
        have := hB.out.size
        show _ ≤ (wr.alloc _).heap.size
        simp; omega
      refine wp_append_own _ (.tmp 12) (.tmp 25) 52 rfl w.heap.size 5 i0 (.int .u8 0) 1 1 Tryz.underlying52 HI.out H0.out H1.out H2.out rfl (by decide) _ (2 * i) _ rfl hO2 ⟨wr.heap.size, 0, none⟩ 2 2 [Value.int IntKind.u8 ↑d1.toNat, Value.int IntKind.u8 ↑d2.toNat] rfl rfl c1 c2 c3 c4 c5 ?_
      intro v2 w2 hO3 hG3 _
      refine hK _ _ True.intro ?_
      clear hK K c1 c2 c3 c4 c5
      refine chain_step rfl (fun K hK => ?_)
      go_simp
      refine hK _ _ True.intro ?_
      clear hK K
      refine chain_nil ?_
      have hB3 : Box (Below w.heap.size w w2) := by
        have h1 := (hB.out.alloc hB.out.size (.cells #[Value.int IntKind.u8 ↑d1.toNat, Value.int IntKind.u8 ↑d2.toNat] 5)).drew
        refine ⟨h1.grown hG3 ?_ ?_⟩
        · have := hB.out.size
          show _ ≤ (wr.alloc _).heap.size
          simp; omega
        · intro k hk; exact (hO.out.lt k hk).1
      replace hO3 := Box.mk hO3
      clear hG3 hO2
      go_wp2_with fail
      have hm : s.size - (intOf (Value.int IntKind.i64 (↑i + 1))).toNat < s.size - (intOf (Value.int IntKind.i64 ↑i)).toNat := by simp [intOf]; omega
      refine ⟨⟨i + 1, by omega, by go_num, ⟨?_⟩, hB3⟩, hm⟩
      rw [get_take s i hlt, hx.out, hexL_snoc _ _ _ _ hd1.out hd2.out, show 2 * (i + 1) = 2 * i + 2 by omega]
      exact hO3.out
    · obtain rfl : i = s.size := by omega
      have ht : s.data.toList.take s.size = s.data.toList := List.take_of_length_le (by rw [data_len]; omega)
      have hO' := hO.out
      rw [ht] at hO'
      have hl : (hexL s.data.toList).length = 2 * s.size := by rw [hexL_length, data_len]
      rw [← hl] at hO'
      have hcv := own_text hO'
      clear hO hO' hl ht
      go_wp2_with fail
      go_returns
      exact ⟨rfl, hB.out⟩
end Go.Proofs.YtiblkfkeifnpaaaGreatDoor

namespace Go.Proofs.YtiblkfkeifnpaaaGreatDoor
open Go.RowKit

theorem flat_one (s : ByteArray) : flat [s] = s.data.toList := by simp [flat]
/-- sha.Sum of one text, as the walk calls it. -/
theorem sum_one (s : ByteArray) (w : World) (hK : KIs w) (hs : s.size ≤ 1152921504606846976) :
    Calls Tryz.prog 56 #[.slice (some ⟨w.heap.size, 0, none⟩) 1 1] (w.alloc (.cells #[.string s] 9)) fun e w' => e = .returned (.string (hashOf s.data.toList)) ∧ Below w.heap.size w w' := by
  have hW := (Below.refl w.heap.size w).alloc (Nat.le_refl _) (.cells #[.string s] 9)
  have hS := sum_parts (.slice (some ⟨w.heap.size, 0, none⟩) 1 1) [s] (w.alloc (.cells #[.string s] 9)) ⟨some ⟨w.heap.size, 0, none⟩, 1, rfl, fun _ => ⟨w.heap.size, 0, rfl, by simp, fun i hi => by
    obtain rfl : i = 0 := by simpa using hi
    rw [World.cell?_alloc_at _ _ _ _ rfl]; rfl⟩⟩ (hK.below hW hK.lt) (by rw [flat_one, data_len]; exact hs) (by simp)
  rw [flat_one] at hS
  exact hS.mono fun e w' ⟨he, hb⟩ => ⟨he, hW.trans (hb.mono (by simp))⟩

end Go.Proofs.YtiblkfkeifnpaaaGreatDoor
