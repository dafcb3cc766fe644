/- QuorumMakes: the walk of the law. | A slice of texts that came in: each is no longer than the form lets a text be. | A set that came in (an api.Set: texts, a number). -/
import Derived.SliceStrings
import Derived.SizedLaws
import Derived.OpenShut
import Derived.ChangeMaps5
import Derived.Test.YtkchaflijlmpgaaGreatDoorMQc
import Derived.Test.YtkchaflijlmpgaaGreatDoorShaH
namespace Go.Proofs.YtkchaflijlmpgaaGreatDoor
open Go Go.RowKit

theorem TxR.put {B g n c : Nat} {w : World} {ids : List ByteArray} (h : TxR B w (.slice (some ⟨g, 0, none⟩) n c) ids) (i : Nat) (x : ByteArray) : TxR B (w.setCell ⟨g, i, none⟩ (.string x)) (.slice (some ⟨g, 0, none⟩) n c) (ids.set i x) := by
  obtain ⟨hx, ⟨h0, _⟩ | ⟨g2, cap, cur, e, b1, hg, k1, k2, k3, k4⟩⟩ := h
  · cases h0
  · cases e
    refine ⟨by simp, .inr ⟨g, c, cur.setIfInBounds i (.string x), by rw [List.length_set], b1, heap_setCell_same w g i cur 9 _ hg, by rw [List.length_set]; exact k1, k2, by simpa using k3, ?_⟩⟩
    rw [List.length_set, Array.toList_setIfInBounds, List.take_set, k4, List.map_set]
theorem TxR.cell {B g n c : Nat} {w : World} {ids : List ByteArray} (h : TxR B w (.slice (some ⟨g, 0, none⟩) n c) ids) (i : Nat) (hi : i < ids.length) : w.cell? ⟨g, i, none⟩ = some (.string (ids.getD i ByteArray.empty)) ∧ w.frozen? ⟨g, i, none⟩ = false := by
  have hp := h.parts
  obtain ⟨a2, c2, e2, hh⟩ := hp.ex
  cases e2
  obtain ⟨b2, o2, e3, _, hc⟩ := hh (by omega)
  cases e3
  have h1 := hc i hi
  rw [Nat.zero_add] at h1
  refine ⟨h1, ?_⟩
  obtain ⟨_, ⟨h0, _⟩ | ⟨g2, cap, cur, e, b1, hg, _⟩⟩ := h
  · cases h0
  · cases e
    exact frozen_of_row w g i cur _ hg
/-- Behind the first two Makes. -/
structure MkA (w0 w : World) (B bS b7 b9 : Nat) (sv : Value) (n2 : Int) (v7 v9 : Value) (R : List ByteArray) (m : Int) : Prop where
  s : Blk w bS [sv, .int .i64 n2] 24
  g : Blk w b7 [v7, .int .i64 m] 24
  x : Blk w b9 [v9, .int .i64 m] 24
  got : ∃ T, T.length = R.length ∧ TxR w0.heap.size w v7 T
  want : TxR B w v9 R
  bel : Below w0.heap.size w0 w
  lt : ∀ k, v7.ownBlock = some k → k < B
theorem MkA.here {w0 w w' : World} {B bS b7 b9 : Nat} {sv : Value} {n2 : Int} {v7 v9 : Value} {R : List ByteArray} {m : Int} (h : MkA w0 w B bS b7 b9 sv n2 v7 v9 R m) (hb : Below w.heap.size w w') : MkA w0 w' B bS b7 b9 sv n2 v7 v9 R m := by
  obtain ⟨T, h1, h2⟩ := h.got
  exact ⟨h.s.below hb h.s.lt, h.g.below hb h.g.lt, h.x.below hb h.x.lt, ⟨T, h1, h2.here hb⟩, h.want.here hb, mono_bel h.bel hb (Nat.le_refl _), h.lt⟩
theorem MkA.put {w0 w : World} {B bS b7 b9 n c : Nat} {a : Option Addr} {sv : Value} {n2 : Int} {v9 : Value} {R : List ByteArray} {m : Int} (h : MkA w0 w B bS b7 b9 sv n2 (.slice a n c) v9 R m) (hn : n = R.length) (i : Nat) (hi : i < n) :
    ∃ g s, a = some ⟨g, 0, none⟩ ∧ w.cell? ⟨g, i, none⟩ = some (.string s) ∧ w.frozen? ⟨g, i, none⟩ = false ∧ n ≤ c ∧ c ≤ maxLen ∧ ∀ x, MkA w0 (w.setCell ⟨g, i, none⟩ (.string x)) B bS b7 b9 sv n2 (.slice a n c) v9 R m := by
  obtain ⟨T, h1, h2⟩ := h.got
  have hsh : ∃ g, a = some ⟨g, 0, none⟩ ∧ n ≤ c ∧ c ≤ maxLen := by
    obtain ⟨hx, ⟨h0, h00⟩ | ⟨g, cap, cur, e, b1, hg, b2, b3, b4, b5⟩⟩ := h2
    · omega
    · cases e
      exact ⟨g, rfl, by omega, b3⟩
  obtain ⟨g, rfl, hc1, hc2⟩ := hsh
  have hcell := h2.cell i (by omega)
  have hlt := h.lt g rfl
  refine ⟨g, _, rfl, hcell.1, hcell.2, hc1, hc2, fun x => ?_⟩
  have hS : bS ≠ g := fun e => h2.apart h.s (by decide) (by rw [e]; rfl)
  have hG : b7 ≠ g := fun e => h2.apart h.g (by decide) (by rw [e]; rfl)
  have hX : b9 ≠ g := fun e => h2.apart h.x (by decide) (by rw [e]; rfl)
  refine ⟨h.s.setCell_other _ _ hS, h.g.setCell_other _ _ hG, h.x.setCell_other _ _ hX, ⟨T.set i x, by simp [h1], h2.put i x⟩, ?_, h.bel.setCell (h2.own g rfl).1 _, h.lt⟩
  refine h.want.chg ((Pk.Chg.refl (fun k => k = g) w).setCell rfl _) fun k hk e => ?_
  have := h.want.own k hk
  omega
/-- Behind the third one. -/
structure MkB (w0 w : World) (bS b9 b12 : Nat) (sv : Value) (n2 : Int) (v9 v12 : Value) (R : List ByteArray) (m : Int) : Prop where
  s : Blk w bS [sv, .int .i64 n2] 24
  x : Blk w b9 [v9, .int .i64 m] 24
  z : Blk w b12 [v12, .int .i64 m] 24
  px : PartsAt w v9 R
  pz : PartsAt w v12 R
  bel : Below w0.heap.size w0 w
theorem MkB.here {w0 w w' : World} {bS b9 b12 : Nat} {sv : Value} {n2 : Int} {v9 v12 : Value} {R : List ByteArray} {m : Int} (h : MkB w0 w bS b9 b12 sv n2 v9 v12 R m) (hb : Below w.heap.size w w') : MkB w0 w' bS b9 b12 sv n2 v9 v12 R m :=
  ⟨h.s.below hb h.s.lt, h.x.below hb h.x.lt, h.z.below hb h.z.lt, h.px.here hb, h.pz.here hb, mono_bel h.bel hb (Nat.le_refl _)⟩
theorem MkB.cls {w0 w : World} {bS b9 b12 : Nat} {sv : Value} {n2 : Int} {v9 v12 : Value} {R : List ByteArray} {m : Int} (h : MkB w0 w bS b9 b12 sv n2 v9 v12 R m) {f : FuncId} {args : Array Value} {r : Value} (hC : Calls Tryz.prog f args w fun e w' => e = .returned r ∧ Below w.heap.size w w') :
    Calls Tryz.prog f args w fun e w' => e = .returned r ∧ MkB w0 w' bS b9 b12 sv n2 v9 v12 R m := hC.mono fun _ _ ⟨he, hb⟩ => ⟨he, h.here hb⟩
theorem set_same (R : List ByteArray) (m : Int) : setB R m R m = true := by simp [setB, texB]
/-- What a Make leaves, whichever way: a set, and the texts in it. -/
theorem MadeS.any {B : Nat} {R : List ByteArray} {need : Int} {e : Ending} {w : World} (h : MadeS B R need e w) : ∃ v T m x, e = .returned (.tuple #[.agg #[v, .int .i64 m], .int .i64 x]) ∧ TxR B w v T ∧ T = (if chkB R need then R else []) ∧ m = (if chkB R need then need else 0) ∧ x = (if chkB R need then 0 else 1) := by
  rcases h with ⟨hk, v, he, hT⟩ | ⟨hk, he⟩
  · exact ⟨v, R, need, 0, he, hT, by simp [hk], by simp [hk], by simp [hk]⟩
  · exact ⟨.slice none 0 0, [], 0, 1, he, TxR.nil _ _, by simp [hk], by simp [hk], by simp [hk]⟩
set_option maxHeartbeats 6400000 in
set_option maxRecDepth 100000 in
theorem makes_walk (a : Option Addr) (cap M : Nat) (ids0 ids : List ByteArray) (need : Int) (sv : Value) (js : List ByteArray) (n2 : Int) (w : World) (hK : KIs w) (hL : ids0.length ≤ cap) (hm : cap ≤ maxLen) (ha : ∃ ad, a = some ad) (hM : min ids0.length 100 = M) (hids : ids.length = M)
    (hp : PartsAt w (.slice a M cap) ids) (hs : PartsAt w sv js) (hj : js.length ≤ maxLen) :
    Calls Tryz.prog 3 #[.slice a ids0.length cap, .int .i64 need, .agg #[sv, .int .i64 n2]] w fun e w' => e = .returned (.bool true) ∧ Below w.heap.size w w' := by
  obtain ⟨ad, rfl⟩ := ha
  obtain ⟨L, hLe⟩ : ∃ L, ids0.length = L := ⟨_, rfl⟩
  rw [hLe] at hL hM ⊢
  obtain ⟨W1, hW1⟩ : ∃ W1, w.alloc (.cells #[sv, .int .i64 n2] 24) = W1 := ⟨_, rfl⟩
  have hB1 : Below w.heap.size w W1 := by rw [← hW1]; exact bel_alloc _ _
  have hS1 : Blk W1 w.heap.size [sv, .int .i64 n2] 24 := by rw [← hW1]; exact Blk.new w _ _
  have hC := counts_any W1 (hK.below hB1 hK.lt)
  have hmin : min (L : Int) 100 = (M : Int) := by omega
  have hML : M ≤ cap := by omega
  have hcap63 : cap ≤ 9223372036854775807 := by unfold maxLen at hm; omega
  have hMk := fun w1 (h1 : Below w.heap.size w w1) => make_any (.slice (some ad) M cap) ids need w1 (hp.here h1) (by omega)
  have hRk := fun w1 (h1 : Below w.heap.size w w1) => rmake_any (.slice (some ad) M cap) ids need w1 (hp.here h1) (by omega)
  have hrl := ris_length ids
  obtain ⟨R, hR⟩ : ∃ R, ris ids = R := ⟨_, rfl⟩
  rw [hR] at hMk hRk hrl
  obtain ⟨T0, hT0⟩ : ∃ T, (if chkB R need then R else []) = T := ⟨_, rfl⟩
  obtain ⟨m0, hm0⟩ : ∃ m, (if chkB R need then need else 0) = m := ⟨_, rfl⟩
  obtain ⟨x0, hx0⟩ : ∃ x : Int, (if chkB R need then 0 else 1) = x := ⟨_, rfl⟩
  have hTl : T0.length ≤ 100 := by
    rw [← hT0]
    split
    · omega
    · simp
  have hsv : ∃ a l c, sv = .slice a l c := by
    obtain ⟨a, c, rfl, _⟩ := hs.ex; exact ⟨_, _, _, rfl⟩
  replace hMk := Box.mk hMk
  replace hRk := Box.mk hRk
  replace hS1 := Box.mk hS1
  replace hB1 := Box.mk hB1
  have hs0 := Box.mk hs
  replace hT0 := Box.mk hT0
  replace hm0 := Box.mk hm0
  replace hx0 := Box.mk hx0
  replace hj := Box.mk hj
  clear hK hp hs hM hLe hR hrl hids
  obtain ⟨sa, sl, sc, rfl⟩ := hsv
  go_enter Tryz.func3, Tryz.ntmps3
  go_wp2_with fail
  refine hC.mono ?_
  clear hC
  rintro e w2 ⟨rfl, hb2⟩
  have hB2 := Box.mk (mono_bel hB1.out hb2 (Nat.le_refl _))
  have hS2 := Box.mk (hS1.out.below hb2 hS1.out.lt)
  have hF := hMk.out w2 hB2.out
  clear hb2 hB1 hS1 hW1
  go_wp2_with fail
  refine hF.mono ?_
  clear hF
  rintro e w3 ⟨hM3, hb3⟩
  obtain ⟨v7, T, m, x, he, hT7, h1, h2, h3⟩ := hM3.any
  rw [hT0.out] at h1
  rw [hm0.out] at h2
  rw [hx0.out] at h3
  rw [h1] at hT7
  rw [h2, h3] at he
  subst he
  have hB3 := Box.mk (mono_bel hB2.out hb3 (Nat.le_refl _))
  have hS3 := Box.mk (hS2.out.below hb3 hS2.out.lt)
  replace hT7 := Box.mk (hT7.base hB2.out.size)
  clear h1 h2 h3 hM3 hb3 hB2 hS2 T m x
  obtain ⟨a7, c7, rfl⟩ := hT7.out.shape
  go_wp2_with fail
  obtain ⟨b7, hb7⟩ : ∃ b, w3.heap.size = b := ⟨_, rfl⟩
  obtain ⟨W4, hW4⟩ : ∃ W4, w3.alloc (.cells #[.slice a7 T0.length c7, .int .i64 m0] 24) = W4 := ⟨_, rfl⟩
  have hb4 : Below w3.heap.size w3 W4 := by rw [← hW4]; exact bel_alloc _ _
  have hG4 : Blk W4 w3.heap.size [.slice a7 T0.length c7, .int .i64 m0] 24 := by rw [← hW4]; exact Blk.new w3 _ _
  have h7 : ∀ k, (Value.slice a7 T0.length c7).ownBlock = some k → k < W4.heap.size := fun k hk => by
    have h1 := (hT7.out.own k hk).2
    have h2 := hG4.lt
    omega
  have hB4 := Box.mk (mono_bel hB3.out hb4 (Nat.le_refl _))
  have hS4 := Box.mk (hS3.out.below hb4 hS3.out.lt)
  have hT4 := Box.mk (hT7.out.here hb4)
  rw [hb7] at hG4
  rw [hW4, hb7]
  replace hG4 := Box.mk hG4
  replace h7 := Box.mk h7
  clear hW4 hb7 hT7 hS3 hB3 hb4
  have hF := hRk.out W4 hB4.out
  clear hRk
  refine hF.mono ?_
  clear hF
  rintro e w5 ⟨hM5, hb5⟩
  obtain ⟨v9, T, m, x, he, hT9, h1, h2, h3⟩ := hM5.any
  rw [hT0.out] at h1
  rw [hm0.out] at h2
  rw [hx0.out] at h3
  rw [h1] at hT9
  rw [h2, h3] at he
  subst he
  clear h1 h2 h3 hM5 T m x
  obtain ⟨a9, c9, rfl⟩ := hT9.shape
  have hB5 := Box.mk (mono_bel hB4.out hb5 (Nat.le_refl _))
  have hS5 := Box.mk (hS4.out.below hb5 hS4.out.lt)
  have hT5 := Box.mk (hT4.out.here hb5)
  have hG5 := Box.mk (hG4.out.below hb5 hG4.out.lt)
  have h47 := Box.mk hG4.out.lt
  replace hT9 := Box.mk hT9
  obtain ⟨B, hB⟩ : ∃ B, W4.heap.size = B := ⟨_, rfl⟩
  rw [hB] at h7 h47 hT9
  clear hb5 hB4 hS4 hT4 hG4 hB
  obtain ⟨W6, hW6⟩ : ∃ W6, w5.alloc (.cells #[.slice a9 T0.length c9, .int .i64 m0] 24) = W6 := ⟨_, rfl⟩
  have hb6 : Below w5.heap.size w5 W6 := by rw [← hW6]; exact bel_alloc _ _
  have hX6 : Blk W6 w5.heap.size [.slice a9 T0.length c9, .int .i64 m0] 24 := by rw [← hW6]; exact Blk.new w5 _ _
  have hG6 := hG5.out.below hb6 hG5.out.lt
  have hA := Box.mk (MkA.mk (hS5.out.below hb6 hS5.out.lt) hG6 hX6 ⟨T0, rfl, hT5.out.here hb6⟩ (hT9.out.here hb6) (mono_bel hB5.out hb6 (Nat.le_refl _)) h7.out)
  have hx0c := hX6.cell 0
  have hx1c := hX6.cell 1
  have hg0c := hG6.cell 0
  have hg1c := hG6.cell 1
  simp only [List.getElem?_cons_zero, List.getElem?_cons_succ] at hx0c hx1c hg0c hg1c
  have h79 : ¬ b7 = w5.heap.size := by
    have h1 := hG5.out.lt
    omega
  have hSm := sameset_any (.slice a7 T0.length c7) (.slice a9 T0.length c9) T0 T0 m0 m0 W6 (hT5.out.here hb6).parts (hT9.out.here hb6).parts (by unfold maxLen; omega)
  rw [set_same] at hSm
  clear hb6 hX6 hG6 hS5 hG5 hT5 hT9 hB5 h7 h47
  go_wp2_with fail
  refine hSm.mono ?_
  clear hSm hx0c hx1c hg0c hg1c
  rintro e w7 ⟨rfl, hb7⟩
  replace hA := Box.mk (hA.out.here hb7)
  obtain ⟨b9, hb9⟩ : ∃ b, w5.heap.size = b := ⟨_, rfl⟩
  rw [hb9] at hA h79 ⊢
  have hg0c := hA.out.g.cell 0
  simp only [List.getElem?_cons_zero] at hg0c
  clear hb7 hb9 hW6
  go_wp2_with fail
  go_loopw [11, 45] (fun _ q wr => ∃ i : Nat, i ≤ T0.length ∧ q = .int .i64 (i : Int) ∧ Box (MkA w wr B w.heap.size b7 b9 (.slice sa sl sc) n2 (.slice a7 T0.length c7) (.slice a9 T0.length c9) T0 m0)) (fun _ q _ => T0.length - (intOf q).toNat)
  case atStart => exact ⟨0, by omega, rfl, hA⟩
  case round =>
    clear hA
    obtain ⟨i, hi, rfl, hA⟩ := hrel
    by_cases hlt : i < T0.length
    · obtain ⟨g, s7, rfl, hc7, hf7, hnc, hcm, hput⟩ := hA.out.put rfl i hlt
      have hg0 := hA.out.g.cell 0
      simp only [List.getElem?_cons_zero] at hg0
      have hii : (i : Int) < (T0.length : Int) := by omega
      unfold maxLen at hcm
      replace hput := Box.mk hput
      clear hg0c
      go_wp2_with fail
      exact ⟨⟨i + 1, by omega, by go_num, ⟨hput.out _⟩⟩, by simp [intOf]; omega⟩
    · obtain rfl : i = T0.length := by omega
      clear hg0c
      go_wp2_with fail
      have hF := hMk.out wr hA.out.bel
      clear hMk
      refine hF.mono ?_
      clear hF hi hlt
      rintro e w8 ⟨hM8, hb8⟩
      obtain ⟨v12, T, m, x, he, hT12, h1, h2, h3⟩ := hM8.any
      rw [hT0.out] at h1
      rw [hm0.out] at h2
      rw [hx0.out] at h3
      rw [h1] at hT12
      rw [h2, h3] at he
      subst he
      clear h1 h2 h3 hM8 T m x
      obtain ⟨a12, c12, rfl⟩ := hT12.shape
      have hA8 := hA.out.here hb8
      obtain ⟨W9, hW9⟩ : ∃ W9, w8.alloc (.cells #[.slice a12 T0.length c12, .int .i64 m0] 24) = W9 := ⟨_, rfl⟩
      have hb9 : Below w8.heap.size w8 W9 := by rw [← hW9]; exact bel_alloc _ _
      have hZ : Blk W9 w8.heap.size [.slice a12 T0.length c12, .int .i64 m0] 24 := by rw [← hW9]; exact Blk.new w8 _ _
      have hA9 := hA8.here hb9
      have hBx := Box.mk (MkB.mk hA9.s hA9.x hZ hA9.want.parts (hT12.here hb9).parts hA9.bel)
      have hlen : Box (T0.length ≤ maxLen) := ⟨by unfold maxLen; omega⟩
      have hss := Box.mk (set_same T0 m0)
      obtain ⟨b12, hb12⟩ : ∃ b, w8.heap.size = b := ⟨_, rfl⟩
      rw [hb12] at hBx
      clear hb8 hA hA8 hb9 hZ hA9 hT12 h79
      go_wp2_with fail
      clear hW9 hb12
      refine region_quiet (fun w' => MkB w w' w.heap.size b9 b12 (.slice sa sl sc) n2 (.slice a9 T0.length c9) (.slice a12 T0.length c12) T0 m0) (by kernel_rfl) (by kernel_rfl) (hBx.out.here (dB _)) ?_
      repeat (go_big_quiet_step (first | exact fun _ => rfl | rfl))
      refine quiet_val rfl (.agg #[.slice a12 T0.length c12, .int .i64 m0]) (fun w' hw' => by have h3 := hw'.z.cell 0; have h4 := hw'.z.cell 1; simp only [List.getElem?_cons_zero, List.getElem?_cons_succ] at h3 h4; go_simp) ?_
      simp only [Act.put, List.setIfInBounds_toArray, List.set_cons_succ, List.set_cons_zero]
      repeat (go_big_quiet_step (first | exact fun _ => rfl | rfl))
      refine quiet_val rfl (.agg #[.slice a9 T0.length c9, .int .i64 m0]) (fun w' hw' => by have h3 := hw'.x.cell 0; have h4 := hw'.x.cell 1; simp only [List.getElem?_cons_zero, List.getElem?_cons_succ] at h3 h4; go_simp) ?_
      simp only [Act.put, List.setIfInBounds_toArray, List.set_cons_succ, List.set_cons_zero]
      repeat (go_big_quiet_step (first | exact fun _ => rfl | rfl))
      refine quiet_call rfl (.bool true) (fun w' hw' => by rw [← hss.out]; exact hw'.cls (sameset_any _ _ T0 T0 m0 m0 w' hw'.pz hw'.px hlen.out)) (fun w' _ => by go_simp) ?_
      simp only [Act.put, List.setIfInBounds_toArray, List.set_cons_succ, List.set_cons_zero]
      repeat (go_big_quiet_step (first | exact fun _ => rfl | rfl))
      refine quiet_val rfl (.agg #[.slice sa sl sc, .int .i64 n2]) (fun w' hw' => by have h3 := hw'.s.cell 0; have h4 := hw'.s.cell 1; simp only [List.getElem?_cons_zero, List.getElem?_cons_succ] at h3 h4; go_simp) ?_
      simp only [Act.put, List.setIfInBounds_toArray, List.set_cons_succ, List.set_cons_zero]
      repeat (go_big_quiet_step (first | exact fun _ => rfl | rfl))
      refine quiet_call rfl (.int .i64 (chkE js n2)) (fun w' hw' => hw'.cls (check_any _ js n2 w' (hs0.out.here hw'.bel) hj.out)) (fun w' _ => by go_simp) ?_
      simp only [Act.put, List.setIfInBounds_toArray, List.set_cons_succ, List.set_cons_zero]
      repeat (go_big_quiet_step (first | exact fun _ => rfl | rfl))
      refine quiet_val rfl (.agg #[.slice sa sl sc, .int .i64 n2]) (fun w' hw' => by have h3 := hw'.s.cell 0; have h4 := hw'.s.cell 1; simp only [List.getElem?_cons_zero, List.getElem?_cons_succ] at h3 h4; go_simp) ?_
      simp only [Act.put, List.setIfInBounds_toArray, List.set_cons_succ, List.set_cons_zero]
      repeat (go_big_quiet_step (first | exact fun _ => rfl | rfl))
      refine quiet_call rfl (.int .i64 (chkE js n2)) (fun w' hw' => hw'.cls (rcheck_any _ js n2 w' (hs0.out.here hw'.bel) hj.out)) (fun w' _ => by go_simp) ?_
      simp only [Act.put, List.setIfInBounds_toArray, List.set_cons_succ, List.set_cons_zero]
      repeat (go_big_quiet_step (first | exact fun _ => rfl | rfl))
      refine wpQuiet_nil ?_
      clear hBx
      intro w10 hB10
      replace hB10 := Box.mk hB10
      go_wp2_with fail
      go_ret
      exact ⟨rfl, hB10.out.bel⟩
set_option maxHeartbeats 6400000 in
set_option maxRecDepth 100000 in
theorem makes_nil (need : Int) (sv : Value) (js : List ByteArray) (n2 : Int) (w : World) (hK : KIs w) (hs : PartsAt w sv js) (hj : js.length ≤ maxLen) :
    Calls Tryz.prog 3 #[.slice none 0 0, .int .i64 need, .agg #[sv, .int .i64 n2]] w fun e w' => e = .returned (.bool true) ∧ Below w.heap.size w w' := by
  have hp := PartsAt.nothing w none 0
  obtain ⟨W1, hW1⟩ : ∃ W1, w.alloc (.cells #[sv, .int .i64 n2] 24) = W1 := ⟨_, rfl⟩
  have hB1 : Below w.heap.size w W1 := by rw [← hW1]; exact bel_alloc _ _
  have hS1 : Blk W1 w.heap.size [sv, .int .i64 n2] 24 := by rw [← hW1]; exact Blk.new w _ _
  have hC := counts_any W1 (hK.below hB1 hK.lt)
  have hMk := fun w1 (h1 : Below w.heap.size w w1) => make_any (.slice none 0 0) [] need w1 (hp.here h1) (by simp)
  have hRk := fun w1 (h1 : Below w.heap.size w w1) => rmake_any (.slice none 0 0) [] need w1 (hp.here h1) (by simp)
  have hrl := ris_length []
  obtain ⟨R, hR⟩ : ∃ R, ris [] = R := ⟨_, rfl⟩
  rw [hR] at hMk hRk hrl
  simp only [List.length_nil, Nat.le_zero] at hrl
  obtain ⟨T0, hT0⟩ : ∃ T, (if chkB R need then R else []) = T := ⟨_, rfl⟩
  obtain ⟨m0, hm0⟩ : ∃ m, (if chkB R need then need else 0) = m := ⟨_, rfl⟩
  obtain ⟨x0, hx0⟩ : ∃ x : Int, (if chkB R need then 0 else 1) = x := ⟨_, rfl⟩
  have hTl : T0.length ≤ 100 := by
    rw [← hT0]
    split
    · omega
    · simp
  have hsv : ∃ a l c, sv = .slice a l c := by
    obtain ⟨a, c, rfl, _⟩ := hs.ex; exact ⟨_, _, _, rfl⟩
  replace hMk := Box.mk hMk
  replace hRk := Box.mk hRk
  replace hS1 := Box.mk hS1
  replace hB1 := Box.mk hB1
  have hs0 := Box.mk hs
  replace hT0 := Box.mk hT0
  replace hm0 := Box.mk hm0
  replace hx0 := Box.mk hx0
  replace hj := Box.mk hj
  clear hK hp hs hR
  obtain ⟨sa, sl, sc, rfl⟩ := hsv
  go_enter Tryz.func3, Tryz.ntmps3
  go_wp2_with fail
  refine hC.mono ?_
  clear hC
  rintro e w2 ⟨rfl, hb2⟩
  have hB2 := Box.mk (mono_bel hB1.out hb2 (Nat.le_refl _))
  have hS2 := Box.mk (hS1.out.below hb2 hS1.out.lt)
  have hF := hMk.out w2 hB2.out
  clear hb2 hB1 hS1 hW1
  go_wp2_with fail
  refine hF.mono ?_
  clear hF
  rintro e w3 ⟨hM3, hb3⟩
  obtain ⟨v7, T, m, x, he, hT7, h1, h2, h3⟩ := hM3.any
  rw [hT0.out] at h1
  rw [hm0.out] at h2
  rw [hx0.out] at h3
  rw [h1] at hT7
  rw [h2, h3] at he
  subst he
  have hB3 := Box.mk (mono_bel hB2.out hb3 (Nat.le_refl _))
  have hS3 := Box.mk (hS2.out.below hb3 hS2.out.lt)
  replace hT7 := Box.mk (hT7.base hB2.out.size)
  clear h1 h2 h3 hM3 hb3 hB2 hS2 T m x
  obtain ⟨a7, c7, rfl⟩ := hT7.out.shape
  go_wp2_with fail
  obtain ⟨b7, hb7⟩ : ∃ b, w3.heap.size = b := ⟨_, rfl⟩
  obtain ⟨W4, hW4⟩ : ∃ W4, w3.alloc (.cells #[.slice a7 T0.length c7, .int .i64 m0] 24) = W4 := ⟨_, rfl⟩
  have hb4 : Below w3.heap.size w3 W4 := by rw [← hW4]; exact bel_alloc _ _
  have hG4 : Blk W4 w3.heap.size [.slice a7 T0.length c7, .int .i64 m0] 24 := by rw [← hW4]; exact Blk.new w3 _ _
  have h7 : ∀ k, (Value.slice a7 T0.length c7).ownBlock = some k → k < W4.heap.size := fun k hk => by
    have h1 := (hT7.out.own k hk).2
    have h2 := hG4.lt
    omega
  have hB4 := Box.mk (mono_bel hB3.out hb4 (Nat.le_refl _))
  have hS4 := Box.mk (hS3.out.below hb4 hS3.out.lt)
  have hT4 := Box.mk (hT7.out.here hb4)
  rw [hb7] at hG4
  rw [hW4, hb7]
  replace hG4 := Box.mk hG4
  replace h7 := Box.mk h7
  clear hW4 hb7 hT7 hS3 hB3 hb4
  have hF := hRk.out W4 hB4.out
  clear hRk
  refine hF.mono ?_
  clear hF
  rintro e w5 ⟨hM5, hb5⟩
  obtain ⟨v9, T, m, x, he, hT9, h1, h2, h3⟩ := hM5.any
  rw [hT0.out] at h1
  rw [hm0.out] at h2
  rw [hx0.out] at h3
  rw [h1] at hT9
  rw [h2, h3] at he
  subst he
  clear h1 h2 h3 hM5 T m x
  obtain ⟨a9, c9, rfl⟩ := hT9.shape
  have hB5 := Box.mk (mono_bel hB4.out hb5 (Nat.le_refl _))
  have hS5 := Box.mk (hS4.out.below hb5 hS4.out.lt)
  have hT5 := Box.mk (hT4.out.here hb5)
  have hG5 := Box.mk (hG4.out.below hb5 hG4.out.lt)
  have h47 := Box.mk hG4.out.lt
  replace hT9 := Box.mk hT9
  obtain ⟨B, hB⟩ : ∃ B, W4.heap.size = B := ⟨_, rfl⟩
  rw [hB] at h7 h47 hT9
  clear hb5 hB4 hS4 hT4 hG4 hB
  obtain ⟨W6, hW6⟩ : ∃ W6, w5.alloc (.cells #[.slice a9 T0.length c9, .int .i64 m0] 24) = W6 := ⟨_, rfl⟩
  have hb6 : Below w5.heap.size w5 W6 := by rw [← hW6]; exact bel_alloc _ _
  have hX6 : Blk W6 w5.heap.size [.slice a9 T0.length c9, .int .i64 m0] 24 := by rw [← hW6]; exact Blk.new w5 _ _
  have hG6 := hG5.out.below hb6 hG5.out.lt
  have hA := Box.mk (MkA.mk (hS5.out.below hb6 hS5.out.lt) hG6 hX6 ⟨T0, rfl, hT5.out.here hb6⟩ (hT9.out.here hb6) (mono_bel hB5.out hb6 (Nat.le_refl _)) h7.out)
  have hx0c := hX6.cell 0
  have hx1c := hX6.cell 1
  have hg0c := hG6.cell 0
  have hg1c := hG6.cell 1
  simp only [List.getElem?_cons_zero, List.getElem?_cons_succ] at hx0c hx1c hg0c hg1c
  have h79 : ¬ b7 = w5.heap.size := by
    have h1 := hG5.out.lt
    omega
  have hSm := sameset_any (.slice a7 T0.length c7) (.slice a9 T0.length c9) T0 T0 m0 m0 W6 (hT5.out.here hb6).parts (hT9.out.here hb6).parts (by unfold maxLen; omega)
  rw [set_same] at hSm
  clear hb6 hX6 hG6 hS5 hG5 hT5 hT9 hB5 h7 h47
  go_wp2_with fail
  refine hSm.mono ?_
  clear hSm hx0c hx1c hg0c hg1c
  rintro e w7 ⟨rfl, hb7⟩
  replace hA := Box.mk (hA.out.here hb7)
  obtain ⟨b9, hb9⟩ : ∃ b, w5.heap.size = b := ⟨_, rfl⟩
  rw [hb9] at hA h79 ⊢
  have hg0c := hA.out.g.cell 0
  simp only [List.getElem?_cons_zero] at hg0c
  clear hb7 hb9 hW6
  go_wp2_with fail
  go_loopw [11, 45] (fun _ q wr => ∃ i : Nat, i ≤ T0.length ∧ q = .int .i64 (i : Int) ∧ Box (MkA w wr B w.heap.size b7 b9 (.slice sa sl sc) n2 (.slice a7 T0.length c7) (.slice a9 T0.length c9) T0 m0)) (fun _ q _ => T0.length - (intOf q).toNat)
  case atStart => exact ⟨0, by omega, rfl, hA⟩
  case round =>
    clear hA
    obtain ⟨i, hi, rfl, hA⟩ := hrel
    by_cases hlt : i < T0.length
    · obtain ⟨g, s7, rfl, hc7, hf7, hnc, hcm, hput⟩ := hA.out.put rfl i hlt
      have hg0 := hA.out.g.cell 0
      simp only [List.getElem?_cons_zero] at hg0
      have hii : (i : Int) < (T0.length : Int) := by omega
      unfold maxLen at hcm
      replace hput := Box.mk hput
      clear hg0c
      go_wp2_with fail
      exact ⟨⟨i + 1, by omega, by go_num, ⟨hput.out _⟩⟩, by simp [intOf]; omega⟩
    · obtain rfl : i = T0.length := by omega
      clear hg0c
      go_wp2_with fail
      have hF := hMk.out wr hA.out.bel
      clear hMk
      refine hF.mono ?_
      clear hF hi hlt
      rintro e w8 ⟨hM8, hb8⟩
      obtain ⟨v12, T, m, x, he, hT12, h1, h2, h3⟩ := hM8.any
      rw [hT0.out] at h1
      rw [hm0.out] at h2
      rw [hx0.out] at h3
      rw [h1] at hT12
      rw [h2, h3] at he
      subst he
      clear h1 h2 h3 hM8 T m x
      obtain ⟨a12, c12, rfl⟩ := hT12.shape
      have hA8 := hA.out.here hb8
      obtain ⟨W9, hW9⟩ : ∃ W9, w8.alloc (.cells #[.slice a12 T0.length c12, .int .i64 m0] 24) = W9 := ⟨_, rfl⟩
      have hb9 : Below w8.heap.size w8 W9 := by rw [← hW9]; exact bel_alloc _ _
      have hZ : Blk W9 w8.heap.size [.slice a12 T0.length c12, .int .i64 m0] 24 := by rw [← hW9]; exact Blk.new w8 _ _
      have hA9 := hA8.here hb9
      have hBx := Box.mk (MkB.mk hA9.s hA9.x hZ hA9.want.parts (hT12.here hb9).parts hA9.bel)
      have hlen : Box (T0.length ≤ maxLen) := ⟨by unfold maxLen; omega⟩
      have hss := Box.mk (set_same T0 m0)
      obtain ⟨b12, hb12⟩ : ∃ b, w8.heap.size = b := ⟨_, rfl⟩
      rw [hb12] at hBx
      clear hb8 hA hA8 hb9 hZ hA9 hT12 h79
      go_wp2_with fail
      clear hW9 hb12
      refine region_quiet (fun w' => MkB w w' w.heap.size b9 b12 (.slice sa sl sc) n2 (.slice a9 T0.length c9) (.slice a12 T0.length c12) T0 m0) (by kernel_rfl) (by kernel_rfl) (hBx.out.here (dB _)) ?_
      repeat (go_big_quiet_step (first | exact fun _ => rfl | rfl))
      refine quiet_val rfl (.agg #[.slice a12 T0.length c12, .int .i64 m0]) (fun w' hw' => by have h3 := hw'.z.cell 0; have h4 := hw'.z.cell 1; simp only [List.getElem?_cons_zero, List.getElem?_cons_succ] at h3 h4; go_simp) ?_
      simp only [Act.put, List.setIfInBounds_toArray, List.set_cons_succ, List.set_cons_zero]
      repeat (go_big_quiet_step (first | exact fun _ => rfl | rfl))
      refine quiet_val rfl (.agg #[.slice a9 T0.length c9, .int .i64 m0]) (fun w' hw' => by have h3 := hw'.x.cell 0; have h4 := hw'.x.cell 1; simp only [List.getElem?_cons_zero, List.getElem?_cons_succ] at h3 h4; go_simp) ?_
      simp only [Act.put, List.setIfInBounds_toArray, List.set_cons_succ, List.set_cons_zero]
      repeat (go_big_quiet_step (first | exact fun _ => rfl | rfl))
      refine quiet_call rfl (.bool true) (fun w' hw' => by rw [← hss.out]; exact hw'.cls (sameset_any _ _ T0 T0 m0 m0 w' hw'.pz hw'.px hlen.out)) (fun w' _ => by go_simp) ?_
      simp only [Act.put, List.setIfInBounds_toArray, List.set_cons_succ, List.set_cons_zero]
      repeat (go_big_quiet_step (first | exact fun _ => rfl | rfl))
      refine quiet_val rfl (.agg #[.slice sa sl sc, .int .i64 n2]) (fun w' hw' => by have h3 := hw'.s.cell 0; have h4 := hw'.s.cell 1; simp only [List.getElem?_cons_zero, List.getElem?_cons_succ] at h3 h4; go_simp) ?_
      simp only [Act.put, List.setIfInBounds_toArray, List.set_cons_succ, List.set_cons_zero]
      repeat (go_big_quiet_step (first | exact fun _ => rfl | rfl))
      refine quiet_call rfl (.int .i64 (chkE js n2)) (fun w' hw' => hw'.cls (check_any _ js n2 w' (hs0.out.here hw'.bel) hj.out)) (fun w' _ => by go_simp) ?_
      simp only [Act.put, List.setIfInBounds_toArray, List.set_cons_succ, List.set_cons_zero]
      repeat (go_big_quiet_step (first | exact fun _ => rfl | rfl))
      refine quiet_val rfl (.agg #[.slice sa sl sc, .int .i64 n2]) (fun w' hw' => by have h3 := hw'.s.cell 0; have h4 := hw'.s.cell 1; simp only [List.getElem?_cons_zero, List.getElem?_cons_succ] at h3 h4; go_simp) ?_
      simp only [Act.put, List.setIfInBounds_toArray, List.set_cons_succ, List.set_cons_zero]
      repeat (go_big_quiet_step (first | exact fun _ => rfl | rfl))
      refine quiet_call rfl (.int .i64 (chkE js n2)) (fun w' hw' => hw'.cls (rcheck_any _ js n2 w' (hs0.out.here hw'.bel) hj.out)) (fun w' _ => by go_simp) ?_
      simp only [Act.put, List.setIfInBounds_toArray, List.set_cons_succ, List.set_cons_zero]
      repeat (go_big_quiet_step (first | exact fun _ => rfl | rfl))
      refine wpQuiet_nil ?_
      clear hBx
      intro w10 hB10
      replace hB10 := Box.mk hB10
      go_wp2_with fail
      go_ret
      exact ⟨rfl, hB10.out.bel⟩
theorem law_makes (a : Option Addr) (cap : Nat) (ids0 : List ByteArray) (need : Int) (sv : Value) (js : List ByteArray) (n2 : Int) (w : World) (hK : KIs w) (hp : PartsAt w (.slice a ids0.length cap) ids0) (hL : ids0.length ≤ cap) (hm : cap ≤ maxLen) (ha : a = none → cap = 0) (hs : PartsAt w sv js) (hj : js.length ≤ maxLen) :
    Calls Tryz.prog 3 #[.slice a ids0.length cap, .int .i64 need, .agg #[sv, .int .i64 n2]] w fun e w' => e = .returned (.bool true) ∧ Below w.heap.size w w' := by
  cases a with
  | none =>
    have h0 := ha rfl
    have h1 : ids0.length = 0 := by omega
    rw [h0, h1]
    exact makes_nil need sv js n2 w hK hs hj
  | some ad =>
    refine makes_walk (some ad) cap (min ids0.length 100) ids0 (ids0.take (min ids0.length 100)) need sv js n2 w hK hL hm ⟨ad, rfl⟩ rfl (by rw [List.length_take]; omega) ?_ hs hj
    by_cases h0 : ids0.length = 0
    · rw [h0]
      exact PartsAt.nothing w _ _
    · obtain ⟨a2, c2, e2, hh⟩ := hp.ex
      cases e2
      obtain ⟨blk, off, e3, hb, hc⟩ := hh (by omega)
      cases e3
      exact (hp.cut 0 (min ids0.length 100) cap rfl (Nat.zero_le _) (Nat.min_le_left _ _))
end Go.Proofs.YtkchaflijlmpgaaGreatDoor

namespace Go.Proofs.YtkchaflijlmpgaaGreatDoor
open Go Go.ChangeShapes Go.WideShapes Go.ChangeAt Go.RowKit Go.ChangeMaps

theorem weights_strs {H : Type} (P : Program) (e : TypeId) : ∀ (l : List ByteArray) (s : ByteArray), s ∈ l → s.data.toList.length ∈ DataW.weightsAll (H := H) P e (strs l)
  | [], s, h => by cases h
  | x :: l, s, h => by
    show _ ∈ DataW.weights P e (.lit (.string x.data.toList)) ++ DataW.weightsAll P e (strs l)
    rw [List.mem_append]
    rcases List.mem_cons.1 h with rfl | h
    · exact .inl (by simp [DataW.weights])
    · exact .inr (weights_strs P e l s h)
set_option maxRecDepth 100000 in
theorem texts_open {H : Type} {enc : TypeId × Value → H} {W : World} {base : Nat} {v : Value} {d : DataW H} {p : List MemPlace} {ts : List TypeId} {ds : List (DataW H)} {j : Nat}
    (hv : Value.okWide Tryz.prog W .any base 22 v) (h : DataW.Trod enc Tryz.prog W 0 (fun _ => true) true 22 v d p)
    (hz : (DataW.weightsEach Tryz.prog ts ds).all (· ≤ reachBytes) = true) (ht : ts[j]? = some 22) (hd : ds[j]? = some d) :
    ∃ (a : Option Addr) (ps : List ByteArray) (cap : Nat), v = .slice a ps.length cap ∧ PartsAt W (.slice a ps.length cap) ps ∧ ps.length ≤ cap ∧ cap ≤ maxLen ∧ (a = none → cap = 0) ∧ ∀ s ∈ ps, s.size ≤ 140737488351232 := by
  obtain ⟨a0, l0, c0, rfl⟩ := okWide_slice Tryz.underlying22 hv
  obtain ⟨fuel, hf⟩ := h
  rcases open_strings Tryz.underlying22 Tryz.underlying9 (by kernel_rfl) hf with ⟨hcs, hx⟩ | ⟨a, len, cap, ss, hcs, _, hl, hm, hlen, hx, hcell, hsz⟩
  · simp [Value.cells] at hcs
    obtain ⟨rfl, rfl, rfl⟩ := hcs
    exact ⟨none, [], 0, rfl, ⟨none, 0, rfl, fun h => absurd h (Nat.lt_irrefl 0)⟩, Nat.le_refl _, Nat.zero_le _, fun _ => rfl, fun s hs => by cases hs⟩
  · simp [Value.cells] at hcs
    obtain ⟨rfl, rfl, rfl⟩ := hcs
    simp only [if_true] at hlen
    have hde : d = _ := congrArg Prod.fst hx
    subst hde
    have hpl : (ss.take l0).length = l0 := by rw [List.length_take]; omega
    refine ⟨some a, ss.take l0, c0, by rw [hpl], ⟨some a, c0, rfl, fun h0 => ?_⟩, by omega, hm, fun e => (by cases e), fun s hs => ?_⟩
    · rw [hpl] at h0
      have hc0 := hcell 0 (by omega)
      obtain ⟨blk, off, spot⟩ := a
      have hspot : spot = none := by simpa [Addr.add] using World.cell?_spot hc0
      subst hspot
      refine ⟨blk, off, rfl, by simpa [Addr.add] using World.block_lt_of_cell? W _ hc0, fun i hi => ?_⟩
      rw [hpl] at hi
      have hci := hcell i (by omega)
      have hadd : (⟨blk, off, none⟩ : Addr).add i = ⟨blk, off + i, none⟩ := by
        unfold Addr.add
        split
        · next h => subst h; rfl
        · rfl
      rw [hadd] at hci
      rw [hci]
      simp [List.getD, hi]
    · have h1 := DataW.weights_mem_each (P := Tryz.prog) ht hd s.data.toList.length (by
        simp only [DataW.weights, Tryz.underlying22, List.mem_cons, List.mem_append]
        exact .inr (.inl (weights_strs Tryz.prog 9 _ s hs)))
      have h2 := List.all_eq_true.1 hz _ h1
      have h3 : s.data.toList.length ≤ reachBytes := by simpa using h2
      rw [data_len] at h3
      unfold reachBytes at h3
      omega
end Go.Proofs.YtkchaflijlmpgaaGreatDoor

namespace Go.Proofs.YtkchaflijlmpgaaGreatDoor
open Go Go.ChangeShapes Go.WideShapes Go.ChangeAt Go.RowKit Go.ChangeMaps

set_option maxRecDepth 100000 in
theorem set_open {H : Type} {enc : TypeId × Value → H} {W : World} {base : Nat} {v : Value} {d : DataW H} {p : List MemPlace} {ts : List TypeId} {ds : List (DataW H)} {j : Nat}
    (hv : Value.okWide Tryz.prog W .any base 24 v) (h : DataW.Trod enc Tryz.prog W 0 (fun _ => true) true 24 v d p)
    (hz : (DataW.weightsEach Tryz.prog ts ds).all (· ≤ reachBytes) = true) (ht : ts[j]? = some 24) (hd : ds[j]? = some d) :
    ∃ (a : Option Addr) (ps : List ByteArray) (cap : Nat) (n : Int), v = .agg #[.slice a ps.length cap, .int .i64 n] ∧ PartsAt W (.slice a ps.length cap) ps ∧ ps.length ≤ cap ∧ cap ≤ maxLen ∧ (a = none → cap = 0) ∧ (Lit.int .i64 n).wf = true ∧ ∀ s ∈ ps, s.size ≤ 140737488351232 := by
  obtain ⟨cs, rfl, hcs⟩ := okWide_struct Tryz.underlying24 hv
  obtain ⟨fuel, hf⟩ := h
  obtain ⟨xs, m, _, hx, hl, hn, hF⟩ := DataW.trod_struct Tryz.underlying24 hf
  rw [show Tryz.prog.cellsOf 24 = 2 by kernel_rfl] at hl
  have hs : ∀ k, k ∈ d.weights Tryz.prog 24 → k ≤ 140737488351232 := fun k hk => by
    have h4 := List.all_eq_true.1 hz _ (DataW.weights_mem_each (P := Tryz.prog) ht hd k hk)
    have h5 : k ≤ reachBytes := by simpa using h4
    unfold reachBytes at h5
    omega
  obtain ⟨l, hle⟩ : ∃ l, (Value.agg cs).cells.toList = l := ⟨_, rfl⟩
  rw [hle] at hl hF
  match l, hl, xs, hn with
  | [c0, c1], _, [x0, x1], _ =>
    have g0 : DataW.trod enc Tryz.prog W 0 (fun _ => true) true m 22 (([c0, c1].drop 0).take (Tryz.prog.cellsOf 22)) = some x0 := hF 0 _ rfl
    have g1 : DataW.trod enc Tryz.prog W 0 (fun _ => true) true m 3 (([c0, c1].drop 1).take (Tryz.prog.cellsOf 3)) = some x1 := hF 1 _ rfl
    have z1 : Tryz.prog.cellsOf 22 = 1 := by kernel_rfl
    have z2 : Tryz.prog.cellsOf 3 = 1 := by kernel_rfl
    rw [z1] at g0
    rw [z2] at g1
    simp only [List.drop_zero, List.take_succ_cons, List.take_zero, List.drop_succ_cons] at g0 g1
    obtain ⟨n, e1, y1, w1⟩ := DataW.trod_int Tryz.underlying3 g1
    have hcv : cs = #[c0, c1] := Array.ext' (by simpa [Value.cells] using hle)
    subst hcv
    rcases open_strings Tryz.underlying22 Tryz.underlying9 (by kernel_rfl) g0 with ⟨hcs, hx0⟩ | ⟨a, len, cap, ss, hcs, _, hl, hm, hlen, hx0, hcell, hsz⟩
    · simp at hcs e1
      subst hcs e1
      exact ⟨none, [], 0, n, rfl, ⟨none, 0, rfl, fun h => absurd h (Nat.lt_irrefl 0)⟩, Nat.le_refl _, Nat.zero_le _, fun _ => rfl, w1, fun s hs => by cases hs⟩
    · simp at hcs e1
      subst hcs e1
      simp only [if_true] at hlen
      have hpl : (ss.take len).length = len := by rw [List.length_take]; omega
      refine ⟨some a, ss.take len, cap, n, by rw [hpl], ⟨some a, cap, rfl, fun h0 => ?_⟩, by omega, hm, fun e => (by cases e), w1, fun s hs2 => ?_⟩
      · rw [hpl] at h0
        have hc0 := hcell 0 (by omega)
        obtain ⟨blk, off, spot⟩ := a
        have hspot : spot = none := by simpa [Addr.add] using World.cell?_spot hc0
        subst hspot
        refine ⟨blk, off, rfl, by simpa [Addr.add] using World.block_lt_of_cell? W _ hc0, fun i hi => ?_⟩
        rw [hpl] at hi
        have hci := hcell i (by omega)
        have hadd : (⟨blk, off, none⟩ : Addr).add i = ⟨blk, off + i, none⟩ := by
          unfold Addr.add
          split
          · next h => subst h; rfl
          · rfl
        rw [hadd] at hci
        rw [hci]
        simp [List.getD, hi]
      · have h1 := hs s.data.toList.length (by
          have hde : d = _ := congrArg Prod.fst hx
          have h2 : x0.1 = _ := congrArg Prod.fst hx0
          rw [hde]
          simp only [DataW.weights, Tryz.underlying24, List.map_cons, List.map_nil, h2]
          show _ ∈ DataW.weights Tryz.prog 22 _ ++ _
          rw [List.mem_append]
          refine .inl ?_
          simp only [DataW.weights, Tryz.underlying22, List.mem_cons, List.mem_append]
          exact .inr (.inl (weights_strs Tryz.prog 9 _ s hs2)))
        rw [data_len] at h1
        exact h1
end Go.Proofs.YtkchaflijlmpgaaGreatDoor
