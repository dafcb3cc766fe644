/- A slice of texts that came in: each is no longer than the form lets a text be. | A set that came in (an api.Set: texts, a number). | QuorumBytes: the walk of the law. | QuorumBytes: the law, for any slice of signatures. -/
import Derived.SliceStrings
import Derived.SizedLaws
import Derived.OpenShut
import Derived.ChangeMaps5
import Derived.Test.YtkchaflijlmpgaaGreatDoorShaH
import Derived.Test.YtkchaflijlmpgaaGreatDoorMBy
namespace Go.Proofs.YtkchaflijlmpgaaGreatDoor
open Go Go.ChangeShapes Go.WideShapes Go.ChangeAt Go.RowKit Go.ChangeMaps

theorem weights_strs {H : Type} (P : Program) (e : TypeId) : ∀ (l : List ByteArray) (s : ByteArray), s ∈ l → s.data.toList.length ∈ DataW.weightsAll (H := H) P e (strs l)
  | [], s, h => by cases h
  | x :: l, s, h => by
    show _ ∈ DataW.weights P e (.lit (.string x.data.toList)) ++ DataW.weightsAll P e (strs l)
    rw [List.mem_append]
    rcases List.mem_cons.1 h with rfl | h
    · exact .inl (by simp [DataW.weights])
    · exact .inr (weights_strs P e l s h)
set_option maxRecDepth 100000 in
theorem texts_open {H : Type} {enc : TypeId × Value → H} {W : World} {base : Nat} {v : Value} {d : DataW H} {p : List MemPlace} {ts : List TypeId} {ds : List (DataW H)} {j : Nat}
    (hv : Value.okWide Tryz.prog W .any base 22 v) (h : DataW.Trod enc Tryz.prog W 0 (fun _ => true) true 22 v d p)
    (hz : (DataW.weightsEach Tryz.prog ts ds).all (· ≤ reachBytes) = true) (ht : ts[j]? = some 22) (hd : ds[j]? = some d) :
    ∃ (a : Option Addr) (ps : List ByteArray) (cap : Nat), v = .slice a ps.length cap ∧ PartsAt W (.slice a ps.length cap) ps ∧ ps.length ≤ cap ∧ cap ≤ maxLen ∧ (a = none → cap = 0) ∧ ∀ s ∈ ps, s.size ≤ 140737488351232 := by
  obtain ⟨a0, l0, c0, rfl⟩ := okWide_slice Tryz.underlying22 hv
  obtain ⟨fuel, hf⟩ := h
  rcases open_strings Tryz.underlying22 Tryz.underlying9 (by kernel_rfl) hf with ⟨hcs, hx⟩ | ⟨a, len, cap, ss, hcs, _, hl, hm, hlen, hx, hcell, hsz⟩
  · simp [Value.cells] at hcs
    obtain ⟨rfl, rfl, rfl⟩ := hcs
    exact ⟨none, [], 0, rfl, ⟨none, 0, rfl, fun h => absurd h (Nat.lt_irrefl 0)⟩, Nat.le_refl _, Nat.zero_le _, fun _ => rfl, fun s hs => by cases hs⟩
  · simp [Value.cells] at hcs
    obtain ⟨rfl, rfl, rfl⟩ := hcs
    simp only [if_true] at hlen
    have hde : d = _ := congrArg Prod.fst hx
    subst hde
    have hpl : (ss.take l0).length = l0 := by rw [List.length_take]; omega
    refine ⟨some a, ss.take l0, c0, by rw [hpl], ⟨some a, c0, rfl, fun h0 => ?_⟩, by omega, hm, fun e => (by cases e), fun s hs => ?_⟩
    · rw [hpl] at h0
      have hc0 := hcell 0 (by omega)
      obtain ⟨blk, off, spot⟩ := a
      have hspot : spot = none := by simpa [Addr.add] using World.cell?_spot hc0
      subst hspot
      refine ⟨blk, off, rfl, by simpa [Addr.add] using World.block_lt_of_cell? W _ hc0, fun i hi => ?_⟩
      rw [hpl] at hi
      have hci := hcell i (by omega)
      have hadd : (⟨blk, off, none⟩ : Addr).add i = ⟨blk, off + i, none⟩ := by
        unfold Addr.add
        split
        · next h => subst h; rfl
        · rfl
      rw [hadd] at hci
      rw [hci]
      simp [List.getD, hi]
    · have h1 := DataW.weights_mem_each (P := Tryz.prog) ht hd s.data.toList.length (by
        simp only [DataW.weights, Tryz.underlying22, List.mem_cons, List.mem_append]
        exact .inr (.inl (weights_strs Tryz.prog 9 _ s hs)))
      have h2 := List.all_eq_true.1 hz _ h1
      have h3 : s.data.toList.length ≤ reachBytes := by simpa using h2
      rw [data_len] at h3
      unfold reachBytes at h3
      omega
end Go.Proofs.YtkchaflijlmpgaaGreatDoor

namespace Go.Proofs.YtkchaflijlmpgaaGreatDoor
open Go Go.ChangeShapes Go.WideShapes Go.ChangeAt Go.RowKit Go.ChangeMaps

set_option maxRecDepth 100000 in
theorem set_open {H : Type} {enc : TypeId × Value → H} {W : World} {base : Nat} {v : Value} {d : DataW H} {p : List MemPlace} {ts : List TypeId} {ds : List (DataW H)} {j : Nat}
    (hv : Value.okWide Tryz.prog W .any base 24 v) (h : DataW.Trod enc Tryz.prog W 0 (fun _ => true) true 24 v d p)
    (hz : (DataW.weightsEach Tryz.prog ts ds).all (· ≤ reachBytes) = true) (ht : ts[j]? = some 24) (hd : ds[j]? = some d) :
    ∃ (a : Option Addr) (ps : List ByteArray) (cap : Nat) (n : Int), v = .agg #[.slice a ps.length cap, .int .i64 n] ∧ PartsAt W (.slice a ps.length cap) ps ∧ ps.length ≤ cap ∧ cap ≤ maxLen ∧ (a = none → cap = 0) ∧ (Lit.int .i64 n).wf = true ∧ ∀ s ∈ ps, s.size ≤ 140737488351232 := by
  obtain ⟨cs, rfl, hcs⟩ := okWide_struct Tryz.underlying24 hv
  obtain ⟨fuel, hf⟩ := h
  obtain ⟨xs, m, _, hx, hl, hn, hF⟩ := DataW.trod_struct Tryz.underlying24 hf
  rw [show Tryz.prog.cellsOf 24 = 2 by kernel_rfl] at hl
  have hs : ∀ k, k ∈ d.weights Tryz.prog 24 → k ≤ 140737488351232 := fun k hk => by
    have h4 := List.all_eq_true.1 hz _ (DataW.weights_mem_each (P := Tryz.prog) ht hd k hk)
    have h5 : k ≤ reachBytes := by simpa using h4
    unfold reachBytes at h5
    omega
  obtain ⟨l, hle⟩ : ∃ l, (Value.agg cs).cells.toList = l := ⟨_, rfl⟩
  rw [hle] at hl hF
  match l, hl, xs, hn with
  | [c0, c1], _, [x0, x1], _ =>
    have g0 : DataW.trod enc Tryz.prog W 0 (fun _ => true) true m 22 (([c0, c1].drop 0).take (Tryz.prog.cellsOf 22)) = some x0 := hF 0 _ rfl
    have g1 : DataW.trod enc Tryz.prog W 0 (fun _ => true) true m 3 (([c0, c1].drop 1).take (Tryz.prog.cellsOf 3)) = some x1 := hF 1 _ rfl
    have z1 : Tryz.prog.cellsOf 22 = 1 := by kernel_rfl
    have z2 : Tryz.prog.cellsOf 3 = 1 := by kernel_rfl
    rw [z1] at g0
    rw [z2] at g1
    simp only [List.drop_zero, List.take_succ_cons, List.take_zero, List.drop_succ_cons] at g0 g1
    obtain ⟨n, e1, y1, w1⟩ := DataW.trod_int Tryz.underlying3 g1
    have hcv : cs = #[c0, c1] := Array.ext' (by simpa [Value.cells] using hle)
    subst hcv
    rcases open_strings Tryz.underlying22 Tryz.underlying9 (by kernel_rfl) g0 with ⟨hcs, hx0⟩ | ⟨a, len, cap, ss, hcs, _, hl, hm, hlen, hx0, hcell, hsz⟩
    · simp at hcs e1
      subst hcs e1
      exact ⟨none, [], 0, n, rfl, ⟨none, 0, rfl, fun h => absurd h (Nat.lt_irrefl 0)⟩, Nat.le_refl _, Nat.zero_le _, fun _ => rfl, w1, fun s hs => by cases hs⟩
    · simp at hcs e1
      subst hcs e1
      simp only [if_true] at hlen
      have hpl : (ss.take len).length = len := by rw [List.length_take]; omega
      refine ⟨some a, ss.take len, cap, n, by rw [hpl], ⟨some a, cap, rfl, fun h0 => ?_⟩, by omega, hm, fun e => (by cases e), w1, fun s hs2 => ?_⟩
      · rw [hpl] at h0
        have hc0 := hcell 0 (by omega)
        obtain ⟨blk, off, spot⟩ := a
        have hspot : spot = none := by simpa [Addr.add] using World.cell?_spot hc0
        subst hspot
        refine ⟨blk, off, rfl, by simpa [Addr.add] using World.block_lt_of_cell? W _ hc0, fun i hi => ?_⟩
        rw [hpl] at hi
        have hci := hcell i (by omega)
        have hadd : (⟨blk, off, none⟩ : Addr).add i = ⟨blk, off + i, none⟩ := by
          unfold Addr.add
          split
          · next h => subst h; rfl
          · rfl
        rw [hadd] at hci
        rw [hci]
        simp [List.getD, hi]
      · have h1 := hs s.data.toList.length (by
          have hde : d = _ := congrArg Prod.fst hx
          have h2 : x0.1 = _ := congrArg Prod.fst hx0
          rw [hde]
          simp only [DataW.weights, Tryz.underlying24, List.map_cons, List.map_nil, h2]
          show _ ∈ DataW.weights Tryz.prog 22 _ ++ _
          rw [List.mem_append]
          refine .inl ?_
          simp only [DataW.weights, Tryz.underlying22, List.mem_cons, List.mem_append]
          exact .inr (.inl (weights_strs Tryz.prog 9 _ s hs2)))
        rw [data_len] at h1
        exact h1
end Go.Proofs.YtkchaflijlmpgaaGreatDoor

namespace Go.Proofs.YtkchaflijlmpgaaGreatDoor
open Go Go.RowKit

theorem bytesR_two (l : List UInt8) (bad : Bool) (h : l.length ≤ 100000000) : ∃ (z : ByteArray) (E : Int), Pk.bytesR l bad = .tuple #[.string z, .int .i64 E] ∧ z.size ≤ 100000000 := by
  cases bad with
  | true => exact ⟨_, _, rfl, by decide⟩
  | false => exact ⟨⟨l.toArray⟩, 0, rfl, h⟩
theorem setIs_len (ids : List ByteArray) (n : Int) : (setIs ids n).length ≤ 18 := by
  unfold setIs
  split
  · next h =>
    have := ((chkB_iff ids n).1 h).2.2.1
    simp; omega
  · simp
theorem sigIs_len (sg : List (ByteArray × ByteArray)) (h : sg.length ≤ 300) : (sigIs sg).length ≤ 601 := by
  rw [sigIs, List.length_cons, sigI_len]; omega
theorem Lz.blk {w w' : World} {b bS : Nat} {t tS : TypeId} {v : Value} {its : List (Bool × List UInt8)} {l : List UInt8} {bad : Bool} {cs : List Value} (h : Lz w b t v its l bad w') (hA : Pk.WAt w b t v l bad) (hS : Blk w bS cs tS) (ht : tS ≠ 5) (hne : bS ≠ b) : Blk w' bS cs tS := by
  obtain ⟨_, _, _, _, hc, _⟩ := h.out
  exact hc.blk hS fun e => by
    rcases e with e | e
    · exact hne e
    · exact wat_apart hA hS ht e
theorem Laid.le {its : List (Bool × List UInt8)} {l l' : List UInt8} {bad bad' : Bool} (h : Laid its l bad l' bad') {N k : Nat} (hN : its.length ≤ N) (hl : l.length ≤ k) : l'.length ≤ k + 70000 * N := Nat.le_trans h.len (Nat.add_le_add hl (Nat.mul_le_mul_left 70000 hN))
/-- Both readers, above W. -/
structure RD (W : World) (br by_ : Nat) (l : List UInt8) (e : Int) (m : List UInt8) (f : Int) (w : World) : Prop where
  r : Pk.RAt w br 94 l e
  y : Pk.RAt w by_ 71 m f
  hr : W.heap.size ≤ br
  hy : W.heap.size ≤ by_
  ne : br ≠ by_
  bel : Below W.heap.size W w
theorem RD.here {W w w' : World} {br by_ : Nat} {l m : List UInt8} {e f : Int} (h : RD W br by_ l e m f w) (hb : Below w.heap.size w w') : RD W br by_ l e m f w' :=
  ⟨(chg0 (S := fun _ => False) hb).blk h.r fun h => h, (chg0 (S := fun _ => False) hb).blk h.y fun h => h, h.hr, h.hy, h.ne, mono_bel h.bel hb (Nat.le_refl _)⟩
theorem RD.one {W w w' : World} {br by_ : Nat} {l m l2 : List UInt8} {e f e2 : Int} (h : RD W br by_ l e m f w) (ha : Pk.RAt w' br 94 l2 e2) (hc : Pk.Chg (fun k => k = br) w w') : RD W br by_ l2 e2 m f w' :=
  ⟨ha, hc.blk h.y (fun e => h.ne e.symm), h.hr, h.hy, h.ne, h.bel.trans (hc.below h.bel.size fun i hi => by have hi : i = br := hi; have := h.hr; omega)⟩
theorem RD.two {W w w' : World} {br by_ : Nat} {l m m2 : List UInt8} {e f f2 : Int} (h : RD W br by_ l e m f w) (ha : Pk.RAt w' by_ 71 m2 f2) (hc : Pk.Chg (fun k => k = by_) w w') : RD W br by_ l e m2 f2 w' :=
  ⟨hc.blk h.r (fun e => h.ne e), ha, h.hr, h.hy, h.ne, h.bel.trans (hc.below h.bel.size fun i hi => by have hi : i = by_ := hi; have := h.hy; omega)⟩
theorem idsT_len (l : List UInt8) (e : Int) : (idsT (takeA l e)).length ≤ 255 := by
  unfold idsT
  split
  · obtain ⟨n, hn, h⟩ := num1 l e
    rw [takeA, hn]
    show (rawsR n _ _).1.length ≤ 255
    rw [rawsR_len]; omega
  · simp
theorem okS_len (l : List UInt8) (e : Int) : (okS (takeS l e)).length ≤ 255 := by
  unfold okS
  split
  · obtain ⟨n, hn, h⟩ := num1 l e
    rw [takeS, hn]
    show (sigsR n _ _).1.length ≤ 255
    rw [sigsR_len]; omega
  · simp
theorem set_same2 (R : List ByteArray) (m : Int) : setB R m R m = true := by simp [setB, texB]
theorem sigs_of_row {w : World} {v : Value} {sg : List (ByteArray × ByteArray)} (h : Pk.Row w 48 2 v sg.length (sgC sg)) : SigsAt w v sg := by
  obtain ⟨a, c, rfl⟩ := h.shape
  refine ⟨a, c, rfl, fun h0 => ?_⟩
  obtain ⟨g, c2, e, hl⟩ := h.some h0
  cases e
  refine ⟨g, 0, rfl, hl, fun i hi => ?_⟩
  have h1 := sgC_get sg i hi
  rw [Nat.zero_add]
  exact ⟨h.cells _ _ h1.1, h.cells _ _ h1.2⟩
set_option maxHeartbeats 12800000 in
set_option maxRecDepth 100000 in
theorem law_bytes (sv : Value) (ids : List ByteArray) (n : Int) (a : Option Addr) (L M cap : Nat) (sg : List (ByteArray × ByteArray)) (text : ByteArray) (w : World) (hK : KIs w) (hs : PartsAt w sv ids) (hj : ids.length ≤ maxLen) (hn : -9223372036854775808 ≤ n ∧ n ≤ 9223372036854775807)
    (hM : min L 300 = M) (hL : L ≤ cap) (_hm : cap ≤ maxLen) (hp : SigsAt w (.slice a M cap) sg) (hsg : sg.length = M) (ht : text.size ≤ 140737488351232) :
    Calls Tryz.prog 6 #[.agg #[sv, .int .i64 n], .slice a L cap, .string text] w fun e w' => e = .returned (.bool true) ∧ Below w.heap.size w w' := by
  obtain ⟨W1, hW1⟩ : ∃ W1, w.alloc (.cells #[sv, .int .i64 n] 24) = W1 := ⟨_, rfl⟩
  have hB1 : Below w.heap.size w W1 := by rw [← hW1]; exact bel_alloc _ _
  have hS1 : Box (Blk W1 w.heap.size [sv, .int .i64 n] 24) := ⟨by rw [← hW1]; exact Blk.new w _ _⟩
  have hC := counts_any W1 (hK.below hB1 hK.lt)
  have hmin : min (L : Int) 300 = (M : Int) := by omega
  have hMc : M ≤ cap := by omega
  have hM3 : M ≤ 300 := by omega
  have hsv : ∃ a l c, sv = .slice a l c := by
    obtain ⟨a, c, rfl, _⟩ := hs.ex; exact ⟨_, _, _, rfl⟩
  obtain ⟨sa, sl, sc, rfl⟩ := hsv
  have hsB := Box.mk hs
  have hpB := Box.mk hp
  have htB := Box.mk ht
  have hjB := Box.mk hj
  have hgB := Box.mk hsg
  have hB1B := Box.mk hB1
  obtain ⟨bS, hbS⟩ : ∃ x, w.heap.size = x := ⟨_, rfl⟩
  rw [hbS] at hS1
  unfold maxLen at _hm
  clear hs hp hj hsg ht hB1 hK hM
  go_enter Tryz.func6, Tryz.ntmps6
  go_wp2_with fail
  refine hC.mono ?_
  clear hC hW1
  rintro e w2 ⟨rfl, hb2⟩
  have hS2 := hS1.out.below hb2 hS1.out.lt
  have hB2 := mono_bel hB1B.out hb2 (Nat.le_refl _)
  obtain ⟨W3, hW3⟩ : ∃ W3, w2.alloc (.cells #[.slice none 0 0, .bool false] 52) = W3 := ⟨_, rfl⟩
  have hb3 : Below w2.heap.size w2 W3 := by rw [← hW3]; exact bel_alloc _ _
  have hw3 : Blk W3 w2.heap.size [.slice none 0 0, .bool false] 52 := by rw [← hW3]; exact Blk.new w2 _ _
  obtain ⟨W4, hW4⟩ : ∃ W4, W3.alloc (.cells #[.slice none 0 0, .bool false] 54) = W4 := ⟨_, rfl⟩
  have hb4 : Below W3.heap.size W3 W4 := by rw [← hW4]; exact bel_alloc _ _
  have hx4 : Blk W4 W3.heap.size [.slice none 0 0, .bool false] 54 := by rw [← hW4]; exact Blk.new W3 _ _
  have hw4 := hw3.below hb4 hw3.lt
  have hb24 := mono_bel hb3 hb4 (Nat.le_refl _)
  have hz1 := hB2.size
  have hz2 := hb3.size
  have hWW : Box (WW w W4 w2.heap.size W3.heap.size (.slice none 0 0) (.slice none 0 0) [] [] false false) := ⟨⟨⟨hw4, Pk.Own.nil _⟩, ⟨hx4, Pk.Own.nil _⟩, by omega, by omega, (fun k hk => by cases hk), (fun k hk => by cases hk), (fun k hk => by cases hk), mono_bel hB2 hb24 (Nat.le_refl _)⟩⟩
  have hS4 := hS2.below hb24 hS2.lt
  have c0 := hS4.cell 0
  have c1 := hS4.cell 1
  simp only [List.getElem?_cons_zero, List.getElem?_cons_succ] at c0 c1
  obtain ⟨bw, hbw⟩ : ∃ x, w2.heap.size = x := ⟨_, rfl⟩
  obtain ⟨bx, hbx⟩ : ∃ x, W3.heap.size = x := ⟨_, rfl⟩
  rw [hbw, hbx] at hWW
  have hnw : Box (bS ≠ bw ∧ bS ≠ bx) := ⟨by have := hS2.lt; omega⟩
  have hS4B := Box.mk hS4
  have hF := lay_any bw (.slice none 0 0) [] false _ ids n w W4 hWW.out.fw hsB.out hWW.out.bel hWW.out.hw hWW.out.ov hjB.out (by simp)
  clear hb2 hS1 hS2 hB2 hb3 hw3 hb4 hx4 hw4 hb24 hz1 hz2 hS4 hB1B
  go_wp2_with fail
  refine hF.mono ?_
  clear hF c0 c1 hW3 hW4 hbw hbx hbS
  rintro e w5 ⟨rfl, hz5⟩
  obtain ⟨v5, l5, bad5, hW5, hl5⟩ := hWW.out.one hz5
  have hS5 := hz5.blk hWW.out.fw hS4B.out (by decide) hnw.out.1
  have c0 := hS5.cell 0
  have c1 := hS5.cell 1
  simp only [List.getElem?_cons_zero, List.getElem?_cons_succ] at c0 c1
  have hF := xlay_any bx (.slice none 0 0) [] false _ ids n w w5 hW5.fx hsB.out hW5.bel hW5.hx hW5.ox hjB.out (by simp) hn
  have hW5B := Box.mk hW5
  have hl5B := Box.mk hl5
  clear hz5 hW5 hl5 hS5 hWW hS4B
  go_wp2_with fail
  refine hF.mono ?_
  clear hF c0 c1
  rintro e w6 ⟨rfl, hz6⟩
  obtain ⟨x6, m6, bad6, hW6, hl6⟩ := hW5B.out.two hz6
  have hlen5 := hl5B.out.le (setIs_len ids n) (Nat.le_refl _)
  have hlen6 := hl6.le (setIs_len ids n) (Nat.le_refl _)
  simp only [List.length_nil] at hlen5 hlen6
  have hF := laysigs_any bw v5 l5 bad5 a M cap sg w w6 hW6.fw hpB.out hgB.out hW6.bel hW6.hw hW6.ov hM3 (by omega)
  have hW6B := Box.mk hW6
  have hl6B := Box.mk hl6
  have h5B := Box.mk hlen5
  have h6B := Box.mk hlen6
  clear hz6 hW6 hl6 hW5B hlen5 hlen6
  go_wp2_with fail
  refine hF.mono ?_
  clear hF
  rintro e w7 ⟨rfl, hz7⟩
  obtain ⟨v7, l7, bad7, hW7, hl7⟩ := hW6B.out.one hz7
  have hF := xlaysigs_any bx x6 m6 bad6 a M cap sg w w7 hW7.fx hpB.out hgB.out hW7.bel hW7.hx hW7.ox hM3 (by have := h6B.out; omega)
  have hW7B := Box.mk hW7
  have hl7B := Box.mk hl7
  clear hz7 hW7 hl7 hW6B
  go_wp2_with fail
  refine hF.mono ?_
  clear hF
  rintro e w8 ⟨rfl, hz8⟩
  obtain ⟨x8, m8, bad8, hW8, hl8⟩ := hW7B.out.two hz8
  have hA1 := hl5B.out.trans hl7B.out
  have hA2 := hl6B.out.trans hl8
  have hsame := Laid.same hA1 hA2 (fun _ => rfl)
  have hlen7 := hl7B.out.le (sigIs_len sg (by rw [hgB.out]; exact hM3)) h5B.out
  obtain ⟨z, E, hz, hzs⟩ := bytesR_two l7 bad7 (Nat.le_trans hlen7 (by decide))
  have hF1 := Pk.bytes_any bw v7 l7 bad7 w8 hW8.fw
  have hF2 := Pk.xbytes_any bx x8 m8 bad8 w8 hW8.fx
  rw [hz] at hF1 hsame
  rw [← hsame] at hF2
  have hB8 := Box.mk hW8.bel
  have hzsB := Box.mk hzs
  have hzz : (z.toList != z.toList) = false := by simp
  have hcat : ¬ 9223372036854775807 < z.size + text.size := by have := htB.out; omega
  clear hz8 hW8 hl8 hA1 hA2 hsame hlen7 hz hzs hW7B hl5B hl6B hl7B h5B h6B hsB hpB hjB hgB
  go_wp2_with fail
  refine hF1.mono ?_
  clear hF1
  rintro e w9 ⟨rfl, rfl⟩
  go_wp2_with fail
  refine hF2.mono ?_
  clear hF2
  rintro e w9 ⟨rfl, rfl⟩
  go_wp2_with fail
  obtain ⟨x3, hx3⟩ : ∃ x, z ++ text = x := ⟨_, rfl⟩
  obtain ⟨W9, hW9⟩ : ∃ W9, w8.alloc (.cells #[.string z, .string text, .string x3] 9) = W9 := ⟨_, rfl⟩
  have hb9 : Below w8.heap.size w8 W9 := by rw [← hW9]; exact bel_alloc _ _
  have hR9 : Box (Blk W9 w8.heap.size [.string z, .string text, .string x3] 9) := ⟨by rw [← hW9]; exact Blk.new w8 _ _⟩
  have hB9 := Box.mk (mono_bel hB8.out hb9 (Nat.le_refl _))
  obtain ⟨g3, hg3⟩ : ∃ x, w8.heap.size = x := ⟨_, rfl⟩
  rw [hg3] at hR9
  try rw [hx3]
  rw [hW9, hg3]
  have hA0 : Box (Below W9.heap.size W9 W9) := ⟨Below.refl _ _⟩
  clear hb9 hW9 hg3 hB8 hx3
  go_loopw [14, 15, 16, 17, 18, 57] (fun _ _ _ _ _ q wr => ∃ i : Nat, i ≤ 3 ∧ q = .int .i64 (i : Int) ∧ Box (Below W9.heap.size W9 wr)) (fun _ _ _ _ _ q _ => 3 - (intOf q).toNat)
  case atStart => exact ⟨0, by omega, rfl, hA0⟩
  case round =>
    clear hA0
    obtain ⟨i, hi, rfl, hA⟩ := hrel
    by_cases hlt : i < 3
    · have hRr := hR9.out.below hA.out hR9.out.lt
      obtain ⟨t, ht⟩ : ∃ t : ByteArray, wr.cell? ⟨g3, i, none⟩ = some (.string t) := by
        obtain rfl | rfl | rfl : i = 0 ∨ i = 1 ∨ i = 2 := by omega
        · exact ⟨_, hRr.cell 0⟩
        · exact ⟨_, hRr.cell 1⟩
        · exact ⟨_, hRr.cell 2⟩
      have hii : (i : Int) < 3 := by omega
      have hF := Pk.read_new t wr
      clear hRr
      go_wp2_with fail
      refine hF.mono ?_
      clear hF ht
      rintro e w1 ⟨rfl, hr1, hb1⟩
      have hF := Pk.xread_new t w1
      go_wp2_with fail
      refine hF.mono ?_
      clear hF
      rintro e w2 ⟨rfl, hy2, hb2⟩
      obtain ⟨l, hl⟩ : ∃ l, t.data.toList = l := ⟨_, rfl⟩
      rw [hl] at hr1 hy2
      have hlB := Box.mk hl
      have hs1 := hb1.size
      have hlt1 := Blk.lt (show Blk w1 wr.heap.size _ _ from hr1)
      obtain ⟨br, hbr⟩ : ∃ x, wr.heap.size = x := ⟨_, rfl⟩
      obtain ⟨by_, hby⟩ : ∃ x, w1.heap.size = x := ⟨_, rfl⟩
      have hC2 : Box (RD wr br by_ l 0 l 0 w2) := ⟨⟨by rw [← hbr]; exact (chg0 (S := fun _ => False) hb2).blk hr1 (fun h => h), by rw [← hby]; exact hy2, by omega, by omega, by omega, mono_bel hb1 hb2 (Nat.le_refl _)⟩⟩
      rw [hbr, hby]
      obtain ⟨T, hTe0⟩ : ∃ T, takeA l 0 = T := ⟨_, rfl⟩
      have hTe := Box.mk hTe0
      have hTl : Box ((idsT T).length ≤ maxLen) := ⟨by rw [← hTe0]; have := idsT_len l 0; unfold maxLen; omega⟩
      obtain ⟨U, hUe0⟩ : ∃ U, takeS T.2.2.1 (errT T) = U := ⟨_, rfl⟩
      have hUe := Box.mk hUe0
      have hUl : Box ((okS U).length ≤ maxLen) := ⟨by rw [← hUe0]; have := okS_len T.2.2.1 (errT T); unfold maxLen; omega⟩
      clear hr1 hy2 hb1 hb2 hs1 hlt1 hbr hby hl hTe0 hUe0
      go_wp2_with fail
      refine region_steadyC (fun _ => True) (RD wr br by_ l 0 l 0) (fun w w' => w = w') rfl (hC2.out.here (dB w2)) ?_
      refine anyS_calms [0, 2] 40 rfl (fun _ => rfl) (st_eq fun _ _ => trivial) (by kernel_rfl) (by kernel_rfl) (by kernel_rfl) ?_
      simp [nth]
      try simp only [Act.put, List.setIfInBounds_toArray, List.set_cons_succ, List.set_cons_zero]
      repeat (go_big_quiet_step (first | exact fun _ => rfl | rfl))
      refine wpQuiet_nil ?_
      refine anyS_forced 1 (by kernel_rfl) rfl rfl (fun wa hWa K hK => ?_)
      have hF := take_any br l 0 wa hWa.r
      go_simp
      refine hF.mono ?_
      clear hF
      rintro rr wb hb
      obtain ⟨v1, rfl, hT1⟩ := hb.out
      rw [hTe.out] at hb hT1 ⊢
      obtain ⟨a1, c1, rfl⟩ := hT1.shape
      have hN1 := hWa.one hb.at_ hb.chg
      have hT1b := hT1.base hWa.bel.size
      refine hK _ _ (fun w' => RD wr br by_ T.2.2.1 (errT T) l 0 w' ∧ TxR wr.heap.size w' (.slice a1 (idsT T).length c1) (idsT T) ∧ (∀ k, (Value.slice a1 (idsT T).length c1).ownBlock = some k → k ≠ by_)) (st_eq fun _ _ => trivial) ⟨hN1, hT1b, fun k hk e => by
        have h1 := (hT1.own k hk).1
        have h2 := Blk.lt (show Blk wa by_ _ _ from hWa.y)
        omega⟩ ?_
      clear hK K hWa hb hT1 hN1 hT1b wa wb
      refine anyS_forced 3 (by kernel_rfl) rfl rfl (fun wa hWa K hK => ?_)
      have hF := xtake_any by_ l 0 wa hWa.1.y
      go_simp
      refine hF.mono ?_
      clear hF
      rintro rr wb hb
      obtain ⟨v2, rfl, hT2⟩ := hb.out
      rw [hTe.out] at hb hT2 ⊢
      obtain ⟨a2, c2, rfl⟩ := hT2.shape
      have hN1 := hWa.1.two hb.at_ hb.chg
      have hT1b := hWa.2.1.chg hb.chg fun k hk e => hWa.2.2 k hk e
      have hT2b := hT2.base hWa.1.bel.size
      refine hK _ _ (fun w' => RD wr br by_ T.2.2.1 (errT T) T.2.2.1 (errT T) w' ∧ TxR wr.heap.size w' (.slice a1 (idsT T).length c1) (idsT T) ∧ TxR wr.heap.size w' (.slice a2 (idsT T).length c2) (idsT T)) (st_eq fun _ _ => trivial) ⟨hN1, hT1b, hT2b⟩ ?_
      clear hK K hWa hb hT2 hN1 hT1b hT2b wa wb
      refine anyS_forced 4 (by kernel_rfl) rfl rfl (fun wa hWa K hK => ?_)
      have hF := sameset_any _ _ (idsT T) (idsT T) (needT T) (needT T) wa hWa.2.1.parts hWa.2.2.parts hTl.out
      rw [set_same2] at hF
      go_simp
      refine hF.mono ?_
      clear hF
      rintro rr wb ⟨rfl, hb⟩
      refine hK _ _ (RD wr br by_ T.2.2.1 (errT T) T.2.2.1 (errT T)) (st_eq fun _ _ => trivial) (hWa.1.here hb) ?_
      clear hK K hWa hb wa wb
      refine anyS_calms [5, 6, 7, 9, 10, 11] 31 rfl (fun _ => rfl) (st_eq fun _ _ => trivial) (by kernel_rfl) (by kernel_rfl) (by kernel_rfl) ?_
      simp [nth]
      try simp only [Act.put, List.setIfInBounds_toArray, List.set_cons_succ, List.set_cons_zero]
      repeat (go_big_quiet_step (first | exact fun _ => rfl | rfl))
      refine wpQuiet_nil ?_
      refine anyS_race (C2 := RD wr br by_ T.2.2.1 (errT T) T.2.2.1 (errT T)) 8 12 (.int .i64 (errT T)) (.int .i64 (errT T)) (by kernel_rfl) (by kernel_rfl) (by kernel_rfl) (by decide) rfl rfl rfl rfl rfl rfl rfl (st_eq fun _ _ => trivial) (st_eq fun _ _ => trivial) (fun wa hC K hK => ?_) (fun wa hC K hK => ?_) (fun wa hC K hK => ?_) (fun wa hC K hK => ?_) ?_
      · have hF := Pk.err_any br _ _ wa hC.r
        go_simp
        refine hF.mono ?_
        rintro rr w' ⟨rfl, rfl⟩
        exact hK _ hC
      · have k0 := Blk.cell (show Blk wa by_ _ _ from hC.y) 1
        simp only [List.getElem?_cons_zero, List.getElem?_cons_succ] at k0
        go_simp
        exact hK
      · have k0 := Blk.cell (show Blk wa by_ _ _ from hC.y) 1
        simp only [List.getElem?_cons_zero, List.getElem?_cons_succ] at k0
        go_simp
        exact hK
      · have hF := Pk.err_any br _ _ wa hC.r
        go_simp
        refine hF.mono ?_
        rintro rr w' ⟨rfl, rfl⟩
        exact hK _ hC
      refine anyS_calms [13, 14, 15, 16, 18] 24 rfl (fun _ => rfl) (st_eq fun _ _ => trivial) (by kernel_rfl) (by kernel_rfl) (by kernel_rfl) ?_
      simp [nth]
      try simp only [Act.put, List.setIfInBounds_toArray, List.set_cons_succ, List.set_cons_zero]
      repeat (go_big_quiet_step (first | exact fun _ => rfl | rfl))
      refine wpQuiet_nil ?_
      refine anyS_forced 17 (by kernel_rfl) rfl rfl (fun wa hWa K hK => ?_)
      have hF := takesigs_any br T.2.2.1 (errT T) wa hWa.r
      go_simp
      refine hF.mono ?_
      clear hF
      rintro rr wb ⟨v1, rfl, hb⟩
      rw [hUe.out] at hb
      obtain ⟨a1, c1, rfl⟩ := hb.row.shape
      have hN1 := hWa.one hb.at_ hb.chg
      refine hK _ _ (fun w' => RD wr br by_ U.2.1 U.2.2 T.2.2.1 (errT T) w' ∧ Pk.Row w' 48 2 (.slice a1 (okS U).length c1) (okS U).length (sgC (okS U)) ∧ (∀ k, (Value.slice a1 (okS U).length c1).ownBlock = some k → k ≠ by_)) (st_eq fun _ _ => trivial) ⟨hN1, hb.row, fun k hk e => by
        have h1 := hb.own k hk
        have h2 := Blk.lt (show Blk wa by_ _ _ from hWa.y)
        omega⟩ ?_
      clear hK K hWa hb hN1 wa wb
      refine anyS_forced 19 (by kernel_rfl) rfl rfl (fun wa hWa K hK => ?_)
      have hF := xtakesigs_any by_ T.2.2.1 (errT T) wa hWa.1.y
      go_simp
      refine hF.mono ?_
      clear hF
      rintro rr wb ⟨v2, rfl, hb⟩
      rw [hUe.out] at hb
      obtain ⟨a2, c2, rfl⟩ := hb.row.shape
      have hN1 := hWa.1.two hb.at_ hb.chg
      have hT1b := hWa.2.1.chg hb.chg fun k hk e => hWa.2.2 k hk e
      refine hK _ _ (fun w' => RD wr br by_ U.2.1 U.2.2 U.2.1 U.2.2 w' ∧ Pk.Row w' 48 2 (.slice a1 (okS U).length c1) (okS U).length (sgC (okS U)) ∧ Pk.Row w' 48 2 (.slice a2 (okS U).length c2) (okS U).length (sgC (okS U))) (st_eq fun _ _ => trivial) ⟨hN1, hT1b, hb.row⟩ ?_
      clear hK K hWa hb hN1 hT1b wa wb
      refine anyS_forced 20 (by kernel_rfl) rfl rfl (fun wa hWa K hK => ?_)
      have hF := samesigs_any a1 a2 (okS U).length c1 c2 (okS U) wa (sigs_of_row hWa.2.1) (sigs_of_row hWa.2.2) rfl hUl.out
      go_simp
      refine hF.mono ?_
      clear hF
      rintro rr wb ⟨rfl, hb⟩
      refine hK _ _ (RD wr br by_ U.2.1 U.2.2 U.2.1 U.2.2) (st_eq fun _ _ => trivial) (hWa.1.here hb) ?_
      clear hK K hWa hb wa wb
      refine anyS_calms [21, 22, 23, 24, 26, 27, 28] 14 rfl (fun _ => rfl) (st_eq fun _ _ => trivial) (by kernel_rfl) (by kernel_rfl) (by kernel_rfl) ?_
      simp [nth]
      try simp only [Act.put, List.setIfInBounds_toArray, List.set_cons_succ, List.set_cons_zero]
      repeat (go_big_quiet_step (first | exact fun _ => rfl | rfl))
      refine wpQuiet_nil ?_
      refine anyS_race (C2 := RD wr br by_ U.2.1 U.2.2 U.2.1 U.2.2) 25 29 (.int .i64 U.2.2) (.int .i64 U.2.2) (by kernel_rfl) (by kernel_rfl) (by kernel_rfl) (by decide) rfl rfl rfl rfl rfl rfl rfl (st_eq fun _ _ => trivial) (st_eq fun _ _ => trivial) (fun wa hC K hK => ?_) (fun wa hC K hK => ?_) (fun wa hC K hK => ?_) (fun wa hC K hK => ?_) ?_
      · have hF := Pk.err_any br _ _ wa hC.r
        go_simp
        refine hF.mono ?_
        rintro rr w' ⟨rfl, rfl⟩
        exact hK _ hC
      · have k0 := Blk.cell (show Blk wa by_ _ _ from hC.y) 1
        simp only [List.getElem?_cons_zero, List.getElem?_cons_succ] at k0
        go_simp
        exact hK
      · have k0 := Blk.cell (show Blk wa by_ _ _ from hC.y) 1
        simp only [List.getElem?_cons_zero, List.getElem?_cons_succ] at k0
        go_simp
        exact hK
      · have hF := Pk.err_any br _ _ wa hC.r
        go_simp
        refine hF.mono ?_
        rintro rr w' ⟨rfl, rfl⟩
        exact hK _ hC
      have hsz := Pk.mk_size U.2.1
      refine anyS_rebase (B' := RD wr br by_ U.2.1 U.2.2 U.2.1 U.2.2) (fun _ _ => trivial) _ _ _ _ ?_
      refine anyS_calms [30, 31, 32, 33, 35, 36, 37, 38, 39] 3 rfl (fun _ => rfl) (st_eq fun _ h => h) (by kernel_rfl) (by kernel_rfl) (by kernel_rfl) ?_
      simp [nth]
      try simp only [Act.put, List.setIfInBounds_toArray, List.set_cons_succ, List.set_cons_zero]
      repeat (go_big_quiet_step (first | exact fun _ => rfl | rfl))
      refine quiet_val rfl (.string (Pk.btx U.2.1)) (fun w' hw' => by have h3 := Blk.cell (show Blk w' by_ _ _ from hw'.y) 0; simp only [List.getElem?_cons_zero] at h3; go_simp) ?_
      simp only [Act.put, List.setIfInBounds_toArray, List.set_cons_succ, List.set_cons_zero]
      repeat (go_big_quiet_step (first | exact fun _ => rfl | rfl))
      refine wpQuiet_nil ?_
      refine anyS_call 34 (.int .i64 (U.2.1.length : Int)) (fun _ => rfl) (st_eq fun _ h => h) (by kernel_rfl) rfl (by kernel_rfl) (by kernel_rfl) rfl (fun w' hw' => Pk.left_any br _ _ w' hw'.r) (fun w' _ => by go_simp) ?_
      refine anyS_calms [40, 41] 0 rfl (fun _ => rfl) (st_eq fun _ h => h) (by kernel_rfl) (by kernel_rfl) (by kernel_rfl) ?_
      simp [nth]
      try simp only [Act.put, List.setIfInBounds_toArray, List.set_cons_succ, List.set_cons_zero]
      repeat (go_big_quiet_step (first | exact fun _ => rfl | rfl))
      refine wpQuiet_nil ?_
      refine anyS_done (by kernel_rfl) (fun w3 hC3 => ?_)
      replace hC3 := Box.mk hC3.bel
      clear hC2 hsz
      go_wp2_with fail
      have hF := Pk.read_new t w3
      refine hF.mono ?_
      clear hF
      rintro e w4 ⟨rfl, hr1, hb1⟩
      have hF := Pk.xread_new t w4
      go_wp2_with fail
      refine hF.mono ?_
      clear hF
      rintro e w5 ⟨rfl, hy2, hb2⟩
      rw [hlB.out] at hr1 hy2
      have hs0 := hC3.out.size
      have hs1 := hb1.size
      have hlt1 := Blk.lt (show Blk w4 w3.heap.size _ _ from hr1)
      obtain ⟨br2, hbr⟩ : ∃ x, w3.heap.size = x := ⟨_, rfl⟩
      obtain ⟨by2, hby⟩ : ∃ x, w4.heap.size = x := ⟨_, rfl⟩
      have hC2 : Box (RD wr br2 by2 l 0 l 0 w5) := ⟨⟨by rw [← hbr]; exact (chg0 (S := fun _ => False) hb2).blk hr1 (fun h => h), by rw [← hby]; exact hy2, by omega, by omega, by omega, mono_bel (mono_bel hC3.out hb1 (Nat.le_refl _)) hb2 (Nat.le_refl _)⟩⟩
      rw [hbr, hby]
      obtain ⟨V, hVe0⟩ : ∃ V, takeS l 0 = V := ⟨_, rfl⟩
      have hVe := Box.mk hVe0
      have hVl : Box ((okS V).length ≤ maxLen) := ⟨by rw [← hVe0]; have := okS_len l 0; unfold maxLen; omega⟩
      clear hr1 hy2 hb1 hb2 hs0 hs1 hlt1 hbr hby hVe0 hC3
      go_wp2_with fail
      refine region_steadyC (fun _ => True) (RD wr br2 by2 l 0 l 0) (fun w w' => w = w') rfl (hC2.out.here (dB w5)) ?_
      refine anyS_calms [0, 2] 13 rfl (fun _ => rfl) (st_eq fun _ _ => trivial) (by kernel_rfl) (by kernel_rfl) (by kernel_rfl) ?_
      simp [nth]
      try simp only [Act.put, List.setIfInBounds_toArray, List.set_cons_succ, List.set_cons_zero]
      repeat (go_big_quiet_step (first | exact fun _ => rfl | rfl))
      refine wpQuiet_nil ?_
      refine anyS_forced 1 (by kernel_rfl) rfl rfl (fun wa hWa K hK => ?_)
      have hF := takesigs_any br2 l 0 wa hWa.r
      go_simp
      refine hF.mono ?_
      clear hF
      rintro rr wb ⟨v1, rfl, hb⟩
      rw [hVe.out] at hb
      obtain ⟨a1, c1, rfl⟩ := hb.row.shape
      have hN1 := hWa.one hb.at_ hb.chg
      refine hK _ _ (fun w' => RD wr br2 by2 V.2.1 V.2.2 l 0 w' ∧ Pk.Row w' 48 2 (.slice a1 (okS V).length c1) (okS V).length (sgC (okS V)) ∧ (∀ k, (Value.slice a1 (okS V).length c1).ownBlock = some k → k ≠ by2)) (st_eq fun _ _ => trivial) ⟨hN1, hb.row, fun k hk e => by
        have h1 := hb.own k hk
        have h2 := Blk.lt (show Blk wa by2 _ _ from hWa.y)
        omega⟩ ?_
      clear hK K hWa hb hN1 wa wb
      refine anyS_forced 3 (by kernel_rfl) rfl rfl (fun wa hWa K hK => ?_)
      have hF := xtakesigs_any by2 l 0 wa hWa.1.y
      go_simp
      refine hF.mono ?_
      clear hF
      rintro rr wb ⟨v2, rfl, hb⟩
      rw [hVe.out] at hb
      obtain ⟨a2, c2, rfl⟩ := hb.row.shape
      have hN1 := hWa.1.two hb.at_ hb.chg
      have hT1b := hWa.2.1.chg hb.chg fun k hk e => hWa.2.2 k hk e
      refine hK _ _ (fun w' => RD wr br2 by2 V.2.1 V.2.2 V.2.1 V.2.2 w' ∧ Pk.Row w' 48 2 (.slice a1 (okS V).length c1) (okS V).length (sgC (okS V)) ∧ Pk.Row w' 48 2 (.slice a2 (okS V).length c2) (okS V).length (sgC (okS V))) (st_eq fun _ _ => trivial) ⟨hN1, hT1b, hb.row⟩ ?_
      clear hK K hWa hb hN1 hT1b wa wb
      refine anyS_forced 4 (by kernel_rfl) rfl rfl (fun wa hWa K hK => ?_)
      have hF := samesigs_any a1 a2 (okS V).length c1 c2 (okS V) wa (sigs_of_row hWa.2.1) (sigs_of_row hWa.2.2) rfl hVl.out
      go_simp
      refine hF.mono ?_
      clear hF
      rintro rr wb ⟨rfl, hb⟩
      refine hK _ _ (RD wr br2 by2 V.2.1 V.2.2 V.2.1 V.2.2) (st_eq fun _ _ => trivial) (hWa.1.here hb) ?_
      clear hK K hWa hb wa wb
      refine anyS_calms [5, 6, 7, 9, 10, 11] 4 rfl (fun _ => rfl) (st_eq fun _ _ => trivial) (by kernel_rfl) (by kernel_rfl) (by kernel_rfl) ?_
      simp [nth]
      try simp only [Act.put, List.setIfInBounds_toArray, List.set_cons_succ, List.set_cons_zero]
      repeat (go_big_quiet_step (first | exact fun _ => rfl | rfl))
      refine wpQuiet_nil ?_
      refine anyS_race (C2 := RD wr br2 by2 V.2.1 V.2.2 V.2.1 V.2.2) 8 12 (.int .i64 V.2.2) (.int .i64 V.2.2) (by kernel_rfl) (by kernel_rfl) (by kernel_rfl) (by decide) rfl rfl rfl rfl rfl rfl rfl (st_eq fun _ _ => trivial) (st_eq fun _ _ => trivial) (fun wa hC K hK => ?_) (fun wa hC K hK => ?_) (fun wa hC K hK => ?_) (fun wa hC K hK => ?_) ?_
      · have hF := Pk.err_any br2 _ _ wa hC.r
        go_simp
        refine hF.mono ?_
        rintro rr w' ⟨rfl, rfl⟩
        exact hK _ hC
      · have k0 := Blk.cell (show Blk wa by2 _ _ from hC.y) 1
        simp only [List.getElem?_cons_zero, List.getElem?_cons_succ] at k0
        go_simp
        exact hK
      · have k0 := Blk.cell (show Blk wa by2 _ _ from hC.y) 1
        simp only [List.getElem?_cons_zero, List.getElem?_cons_succ] at k0
        go_simp
        exact hK
      · have hF := Pk.err_any br2 _ _ wa hC.r
        go_simp
        refine hF.mono ?_
        rintro rr w' ⟨rfl, rfl⟩
        exact hK _ hC
      refine anyS_calms [13, 14] 0 rfl (fun _ => rfl) (st_eq fun _ _ => trivial) (by kernel_rfl) (by kernel_rfl) (by kernel_rfl) ?_
      simp [nth]
      try simp only [Act.put, List.setIfInBounds_toArray, List.set_cons_succ, List.set_cons_zero]
      repeat (go_big_quiet_step (first | exact fun _ => rfl | rfl))
      refine wpQuiet_nil ?_
      refine anyS_done (by kernel_rfl) (fun w6 hC6 => ?_)
      have hN := Box.mk (mono_bel hA.out hC6.bel (Nat.le_refl _))
      clear hC6 hC2
      go_wp2_with fail
      exact ⟨⟨i + 1, by omega, by go_num, hN⟩, by simp [intOf]; omega⟩
    · obtain rfl : i = 3 := by omega
      have hB10 := Box.mk (mono_bel hB9.out hA.out (Nat.le_refl _))
      clear hA
      go_wp2_with fail
      go_ret
      exact ⟨rfl, hB10.out⟩
end Go.Proofs.YtkchaflijlmpgaaGreatDoor

namespace Go.Proofs.YtkchaflijlmpgaaGreatDoor
open Go Go.RowKit

theorem i64_of {n : Int} (h : (Lit.int .i64 n).wf = true) : -9223372036854775808 ≤ n ∧ n ≤ 9223372036854775807 := by
  have h0 : IntKind.i64.min ≤ n ∧ n ≤ IntKind.i64.max := by simpa [Lit.wf] using h
  have h1 : IntKind.i64.min = -9223372036854775808 := by decide
  have h2 : IntKind.i64.max = 9223372036854775807 := by decide
  omega
theorem SigsAt.first {w : World} {a : Option Addr} {L cap : Nat} {sg : List (ByteArray × ByteArray)} (h : SigsAt w (.slice a L cap) sg) (hg : sg.length = L) (M : Nat) (hM : M ≤ L) : SigsAt w (.slice a M cap) (sg.take M) := by
  obtain ⟨a2, c2, e, hh⟩ := h.ex
  cases e
  have hl : (sg.take M).length = M := by rw [List.length_take]; omega
  refine ⟨a, cap, by rw [hl], fun h0 => ?_⟩
  rw [hl] at h0
  obtain ⟨blk, off, e2, hb, hc⟩ := hh (by omega)
  refine ⟨blk, off, e2, hb, fun i hi => ?_⟩
  rw [hl] at hi
  have := hc i (by omega)
  simpa [List.getD, hi] using this
theorem law_bytes_all (sv : Value) (ids : List ByteArray) (n : Int) (a : Option Addr) (L cap : Nat) (sg : List (ByteArray × ByteArray)) (text : ByteArray) (w : World) (hK : KIs w) (hs : PartsAt w sv ids) (hj : ids.length ≤ maxLen) (hn : -9223372036854775808 ≤ n ∧ n ≤ 9223372036854775807)
    (hp : SigsAt w (.slice a L cap) sg) (hg : sg.length = L) (hL : L ≤ cap) (hm : cap ≤ maxLen) (ht : text.size ≤ 140737488351232) :
    Calls Tryz.prog 6 #[.agg #[sv, .int .i64 n], .slice a L cap, .string text] w fun e w' => e = .returned (.bool true) ∧ Below w.heap.size w w' :=
  law_bytes sv ids n a L (min L 300) cap (sg.take (min L 300)) text w hK hs hj hn rfl hL hm (hp.first hg _ (Nat.min_le_left _ _)) (by rw [List.length_take]; omega) ht
end Go.Proofs.YtkchaflijlmpgaaGreatDoor
