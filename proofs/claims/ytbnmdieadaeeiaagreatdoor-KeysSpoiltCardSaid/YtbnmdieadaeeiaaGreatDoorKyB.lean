/- Walks of over, idOf, plant (the tree of a seed). -/
import Derived.Test.YtbnmdieadaeeiaaGreatDoorKyA
import Derived.Test.YtbnmdieadaeeiaaGreatDoorQg
import Derived.Laws.MakeOwn
namespace Go.Proofs.YtbnmdieadaeeiaaGreatDoor
open Go Go.RowKit

theorem tag2_len (k : UInt8) (a b : ByteArray) (ha : a.size ≤ 1000) (hb : b.size ≤ 1000) : (tagL k [a, b]).length ≤ 100000 := by
  simp only [tagL, tagP, List.flatMap_cons, List.flatMap_nil, List.length_cons, List.length_append, data_len, be4_length, List.length_nil]
  omega
set_option maxHeartbeats 800000 in
set_option maxRecDepth 100000 in
theorem over_any (a b : ByteArray) (w : World) (hK : KIs w) (ha : a.size = 32) (hb : b.size = 32) :
    Calls Tryz.prog 63 #[.string a, .string b] w fun e w' => e = .returned (.string (nodeV a b)) ∧ Below w.heap.size w w' := by
  have hsz := tag2_len 37 a b (by omega) (by omega)
  have hF := stagB_parts 37 (.slice (some ⟨w.heap.size, 0, none⟩) 2 2) [a, b] (w.alloc (.cells #[.string a, .string b] 9)) (parts_new w [a, b] 9) (hK.below ((Below.refl _ _).alloc (Nat.le_refl _) _) hK.lt) (by omega) (by simp)
  rw [show hashOf (tagL 37 [a, b]) = nodeV a b from rfl] at hF
  have hB : Box (Below w.heap.size w (w.alloc (.cells #[.string a, .string b] 9))) := ⟨(Below.refl _ _).alloc (Nat.le_refl _) _⟩
  obtain ⟨y, hy⟩ : ∃ y, nodeV a b = y := ⟨_, rfl⟩
  rw [hy] at hF ⊢
  clear hsz hK hy
  go_enter Tryz.func63, Tryz.ntmps63
  go_wp2_with fail
  refine hF.mono ?_
  rintro e w3 ⟨rfl, hb3⟩
  clear hF
  have hB3 : Box (Below w.heap.size w w3) := ⟨hB.out.trans (hb3.mono (by simp))⟩
  clear hb3
  go_wp2_with fail
  go_ret
  exact ⟨rfl, hB3.out⟩
set_option maxHeartbeats 800000 in
set_option maxRecDepth 100000 in
theorem id_any (h : Nat) (t : ByteArray) (w : World) (hK : KIs w) (hh : h ≤ 255) (ht : t.size = 32) :
    Calls Tryz.prog 33 #[.int .i64 (h : Int), .string t] w fun e w' => e = .returned (.string (idV h t)) ∧ Below w.heap.size w w' := by
  have h1 : (by1 h).size = 1 := rfl
  have hsz := tag2_len 38 (by1 h) t (by omega) (by omega)
  have hN : ((UInt8.ofNat h).toNat : Int) = (h : Int) := by rw [UInt8.toNat_ofNat']; omega
  have hcv := one_text w (UInt8.ofNat h)
  have hF := stagB_parts 38 (.slice (some ⟨w.heap.size + 1, 0, none⟩) 2 2) [by1 h, t] ((w.alloc (.cells #[Value.int .u8 ((UInt8.ofNat h).toNat : Int)] 5)).alloc (.cells #[.string (by1 h), .string t] 9))
    (by have := parts_new (w.alloc (.cells #[Value.int .u8 ((UInt8.ofNat h).toNat : Int)] 5)) [by1 h, t] 9; rwa [show (w.alloc (.cells #[Value.int .u8 ((UInt8.ofNat h).toNat : Int)] 5)).heap.size = w.heap.size + 1 by simp] at this)
    (hK.below (((Below.refl _ _).alloc (Nat.le_refl _) _).alloc (by simp) _) hK.lt) (by omega) (by simp)
  rw [show hashOf (tagL 38 [by1 h, t]) = idV h t from rfl] at hF
  have hB : Box (Below w.heap.size w ((w.alloc (.cells #[Value.int .u8 ((UInt8.ofNat h).toNat : Int)] 5)).alloc (.cells #[.string (by1 h), .string t] 9))) := ⟨((Below.refl _ _).alloc (Nat.le_refl _) _).alloc (by simp) _⟩
  obtain ⟨y, hy⟩ : ∃ y, idV h t = y := ⟨_, rfl⟩
  rw [hy] at hF ⊢
  rw [show one (UInt8.ofNat h) = by1 h from rfl] at hcv
  obtain ⟨x, hx⟩ : ∃ x, by1 h = x := ⟨_, rfl⟩
  rw [hx] at hF hcv hB
  rw [hN] at hF hcv hB
  clear hsz hK hy hx h1 hN
  go_enter Tryz.func33, Tryz.ntmps33
  go_wp2_with fail
  refine hF.mono ?_
  rintro e w3 ⟨rfl, hb3⟩
  clear hF
  have hB3 : Box (Below w.heap.size w w3) := ⟨hB.out.trans (hb3.mono (by simp; omega))⟩
  clear hb3
  go_wp2_with fail
  go_ret
  exact ⟨rfl, hB3.out⟩
/-- A row of texts by places. -/
def tw (f : Nat → ByteArray) (n : Nat) : List Value := (List.range n).map fun p => Value.string (f p)
theorem tw_length (f : Nat → ByteArray) (n : Nat) : (tw f n).length = n := by simp [tw]
theorem tw_get (f : Nat → ByteArray) (n p : Nat) (hp : p < n) : (tw f n)[p]? = some (.string (f p)) := by simp [tw, hp]
theorem tw_congr {f g : Nat → ByteArray} {n : Nat} (h : ∀ p, p < n → f p = g p) : tw f n = tw g n := by
  unfold tw
  apply List.map_congr_left
  intro p hp
  rw [h p (by simpa using hp)]
theorem tw_set (f : Nat → ByteArray) (n i : Nat) (x : ByteArray) : (tw f n).set i (.string x) = tw (fun p => if p = i then x else f p) n := by
  apply List.ext_getElem?
  intro j
  rw [List.getElem?_set]
  by_cases hj : j < n
  · rw [tw_get _ _ _ hj, tw_length]
    by_cases h : i = j
    · subst h; rw [if_pos rfl, if_pos hj, tw_get _ _ _ hj, if_pos rfl]
    · rw [if_neg h, tw_get _ _ _ hj, if_neg (by omega)]
  · have h1 : (tw f n)[j]? = none := List.getElem?_eq_none (by rw [tw_length]; omega)
    have h2 : (tw (fun p => if p = i then x else f p) n)[j]? = none := List.getElem?_eq_none (by rw [tw_length]; omega)
    rw [h1, h2, tw_length]
    split
    · rw [if_neg (by omega)]
    · rfl
theorem tw_none (n : Nat) : tw (fun _ => ⟨#[]⟩) n = List.replicate n (.string ⟨#[]⟩) := by
  unfold tw
  rw [List.map_const', List.length_range]
theorem info_s : (Tryz.prog.info? 9).map (fun i => (i.zero, i.size, i.bytes)) = some (some (.string ⟨#[]⟩), 1, 16) := by kernel_rfl

/-- The leaves that are laid; the nodes that are laid. -/
def lf (s : ByteArray) (h m n p : Nat) : ByteArray := if m ≤ p ∧ p < m + n then plc s h p else ⟨#[]⟩
def nd (s : ByteArray) (h i p : Nat) : ByteArray := if i < p then plc s h p else ⟨#[]⟩

set_option maxHeartbeats 1600000 in
set_option maxRecDepth 100000 in
theorem plant_any (s : ByteArray) (h : Nat) (w : World) (hK : KIs w) (hs : s.size ≤ 1125899906842624) (hh : h ≤ 4) :
    Calls Tryz.prog 71 #[.string s, .int .i64 (h : Int)] w fun e w' => e = .returned (treeV h (some w.heap.size)) ∧ Blk w' w.heap.size (tcells s h) 9 ∧ Below w.heap.size w w' := by
  obtain ⟨m, hm⟩ : ∃ m, 2 ^ h = m := ⟨_, rfl⟩
  have hp : (2 : Int) ^ h = (m : Int) := by rw [← hm]; simp
  have hm16 : m ≤ 16 := by rw [← hm]; exact pow_le h hh
  have hm0 : 0 < m := by rw [← hm]; exact Nat.two_pow_pos h
  obtain ⟨i0, hi, hz0, hz1, hz2⟩ := info_parts info_s
  have hmk := run_make (P := Tryz.prog) (w := w) 75 9 i0 (.string ⟨#[]⟩) Tryz.underlying75 hi hz0 .i64 .i64 (2 * (m : Int)) (2 * (m : Int)) (by omega) (by omega) (by rw [hz2]; omega) (by omega)
  obtain ⟨w1, hw1⟩ : ∃ w1, w.alloc (.cells (madeCells (Value.string ⟨#[]⟩).cells ((2 * (m : Int)).toNat * i0.size)) 9) = w1 := ⟨_, rfl⟩
  rw [hw1, show (2 * (m : Int)).toNat = 2 * m by omega] at hmk
  have hcells : (madeCells (Value.string ⟨#[]⟩).cells ((2 * (m : Int)).toNat * i0.size)).toList = tw (lf s h m 0) (2 * m) := by
    rw [hz1, Nat.mul_one, show (Value.string ⟨#[]⟩).cells = #[.string ⟨#[]⟩] from rfl, toList_madeCells_one, show (2 * (m : Int)).toNat = 2 * m by omega, ← tw_none]
    exact tw_congr fun p _ => by rw [lf, if_neg (by omega)]
  have hL0 : Box (Blk w1 w.heap.size (tw (lf s h m 0) (2 * m)) 9) := ⟨by rw [← hcells, ← hw1]; exact Blk.new w _ _⟩
  have hB0 : Box (Below w.heap.size w w1) := ⟨by rw [← hw1]; exact (Below.refl _ _).alloc (Nat.le_refl _) _⟩
  have hP := fun w1 (hK1 : KIs w1) n (hn : n < 65536) => public_ok s n w1 hK1 hn hs
  have hleaf : ∀ n, n < m → plc s h (m + n) = pubT s n := fun n hn => by rw [← hm]; exact plc_leaf s h n (by omega)
  have hnode : ∀ i, 0 < i → i < m → plc s h i = nodeV (plc s h (2 * i)) (plc s h (2 * i + 1)) := fun i h0 hi => plc_node s h i h0 (by omega)
  have htc : tcells s h = tw (plc s h) (2 * m) := by rw [tcells, hm]; rfl
  have htv : treeV h (some w.heap.size) = .slice (some ⟨w.heap.size, 0, none⟩) (2 * m) (2 * m) := by rw [treeV, hm]
  rw [htv]
  have hKW := Box.mk hK
  clear hK
  replace hP := Box.mk hP
  replace hleaf := Box.mk hleaf
  replace hnode := Box.mk hnode
  replace htc := Box.mk htc
  replace hw1 := Box.mk hw1
  clear hcells htv hm hi hz0 hz1 hz2 hs
  obtain ⟨bt, hbt⟩ : ∃ bt, w.heap.size = bt := ⟨_, rfl⟩
  rw [hbt] at hmk hL0
  rw [hbt]
  replace hbt := Box.mk hbt
  go_enter Tryz.func71, Tryz.ntmps71
  go_wp2_with fail
  go_loopw [7, 15] (fun _ q wr => ∃ n : Nat, n ≤ m ∧ q = .int .i64 (n : Int) ∧ Box (Blk wr bt (tw (lf s h m n) (2 * m)) 9) ∧ Box (Below w.heap.size w wr)) (fun _ q _ => m - (intOf q).toNat)
  case atStart => exact ⟨0, by omega, rfl, hL0, hB0⟩
  case round =>
    clear hL0 hB0 hmk
    obtain ⟨n, hn, rfl, hL, hB⟩ := hrel
    by_cases hlt : n < m
    · have hF := hP.out wr (hKW.out.below hB.out hKW.out.lt) n (by omega)
      obtain ⟨x, hx⟩ : ∃ x, pubT s n = x := ⟨_, rfl⟩
      rw [hx] at hF
      have hnext : (tw (lf s h m n) (2 * m)).set (m + n) (.string x) = tw (lf s h m (n + 1)) (2 * m) := by
        rw [tw_set]
        refine tw_congr fun p hp => ?_
        rw [← hx, ← hleaf.out n hlt]
        unfold lf
        by_cases h1 : p = m + n
        · rw [if_pos h1, if_pos (by omega), h1]
        · rw [if_neg h1]
          by_cases h2 : m ≤ p ∧ p < m + n
          · rw [if_pos h2, if_pos (by omega)]
          · rw [if_neg h2, if_neg (by omega)]
      replace hx := Box.mk hx
      replace hnext := Box.mk hnext
      go_wp2_with fail
      refine hF.mono ?_
      clear hF
      rintro e w2 ⟨rfl, hb2⟩
      have hbtl : bt < wr.heap.size := hL.out.lt
      have hL2 : Blk w2 bt (tw (lf s h m n) (2 * m)) 9 := hL.out.below hb2 hbtl
      have hc := hL2.cell (m + n)
      rw [tw_get _ _ _ (by omega)] at hc
      have hfz := hL2.free (m + n)
      have hL3 := hL2.setCell (m + n) (.string x)
      rw [hnext.out] at hL3
      have hB3 : Box (Below w.heap.size w (w2.setCell ⟨bt, m + n, none⟩ (.string x))) := ⟨(mono_bel hB.out hb2 (Nat.le_refl _)).setCell (by have := hbt.out; simp; omega) _⟩
      replace hL3 := Box.mk hL3
      have hidx : ((m : Int) + (n : Int)).toNat = m + n := by omega
      clear hL hB hb2 hL2 hbtl
      go_wp2_with fail
      exact ⟨⟨n + 1, by omega, by go_num, hL3, hB3⟩, by simp [intOf]; omega⟩
    · obtain rfl : m = n := by omega
      obtain ⟨k, hk1, hk2⟩ : ∃ k, k + 1 ≤ m ∧ m ≤ k + 1 := ⟨m - 1, by omega, by omega⟩
      have hL2 : Box (Blk wr bt (tw (nd s h k) (2 * m)) 9) := ⟨by
        rw [← tw_congr (f := lf s h m m) fun p hp => ?_]
        · exact hL.out
        · unfold lf nd
          by_cases h1 : k < p
          · rw [if_pos h1, if_pos (by omega)]
          · rw [if_neg h1, if_neg (by omega)]⟩
      clear hL hlt hP hleaf
      go_wp2_with fail
      go_loopw [8] (fun q wr => ∃ i : Nat, i ≤ k ∧ q = .int .i64 (i : Int) ∧ Box (Blk wr bt (tw (nd s h i) (2 * m)) 9) ∧ Box (Below w.heap.size w wr)) (fun q _ => (intOf q).toNat)
      case atStart => exact ⟨k, by omega, u_eq (by omega), hL2, hB⟩
      case round =>
        clear hL2 hB
        obtain ⟨i, hi, rfl, hL, hB⟩ := hrel
        by_cases h0 : 0 < i
        · have hn1 := hnode.out i h0 (by omega)
          have hsa := plc_size s h (2 * i) (by omega)
          have hsb := plc_size s h (2 * i + 1) (by omega)
          have c1 := hL.out.cell (2 * i)
          have c2 := hL.out.cell (2 * i + 1)
          rw [tw_get _ _ _ (by omega), nd, if_pos (by omega)] at c1 c2
          obtain ⟨x, hx⟩ : ∃ x, plc s h (2 * i) = x := ⟨_, rfl⟩
          obtain ⟨y, hy⟩ : ∃ y, plc s h (2 * i + 1) = y := ⟨_, rfl⟩
          obtain ⟨z, hz⟩ : ∃ z, nodeV x y = z := ⟨_, rfl⟩
          rw [hx] at hsa c1
          rw [hy] at hsb c2
          rw [hx, hy, hz] at hn1
          have hF := fun w1 (hK1 : KIs w1) => over_any x y w1 hK1 hsa hsb
          rw [hz] at hF
          have hnext : (tw (nd s h i) (2 * m)).set i (.string z) = tw (nd s h (i - 1)) (2 * m) := by
            rw [tw_set]
            refine tw_congr fun p hp => ?_
            rw [← hn1]
            unfold nd
            by_cases h1 : p = i
            · rw [if_pos h1, if_pos (by omega), h1]
            · rw [if_neg h1]
              by_cases h2 : i < p
              · rw [if_pos h2, if_pos (by omega)]
              · rw [if_neg h2, if_neg (by omega)]
          replace hx := Box.mk hx
          replace hy := Box.mk hy
          replace hz := Box.mk hz
          replace hnext := Box.mk hnext
          have e1 : (2 * (i : Int)).toNat = 2 * i := by omega
          have e3 : IntKind.i64.wrap (2 * (i : Int)) = 2 * (i : Int) := by rw [IntKind.wrap_i64]; omega
          have e4 : IntKind.i64.wrap (2 * (i : Int) + 1) = 2 * (i : Int) + 1 := by rw [IntKind.wrap_i64]; omega
          have e2 : (2 * (i : Int) + 1).toNat = 2 * i + 1 := by omega
          have d1 : wr.drew.cell? ⟨bt, 2 * i, none⟩ = some (.string x) := c1
          have d2 : wr.drew.cell? ⟨bt, 2 * i + 1, none⟩ = some (.string y) := c2
          clear hsa hsb hn1
          go_wp2_with fail
          refine region_go (C := fun w' => w'.cell? ⟨bt, 2 * i, none⟩ = some (.string x) ∧ w'.cell? ⟨bt, 2 * i + 1, none⟩ = some (.string y)) rfl ?_
          refine go_calms [0, 1, 2, 3, 4, 5, 6, 7, 8, 9, 10, 11, 12] 3 rfl (by kernel_rfl) (by kernel_rfl) (by kernel_rfl) ⟨d1, d2⟩ ?_
          simp [nth]
          try simp only [Act.put]
          repeat (go_big_quiet_step (first | exact fun _ => rfl | rfl))
          refine quiet_any rfl (.int .i64 (2 * (i : Int))) (fun w' hw' => by go_simp) ?_
          simp only [Act.put, List.setIfInBounds_toArray, List.set_cons_succ, List.set_cons_zero]
          refine quiet_any rfl (.pointer (some ⟨bt, 2 * i, none⟩)) (fun w' hw' => by go_simp; omega) ?_
          simp only [Act.put, List.setIfInBounds_toArray, List.set_cons_succ, List.set_cons_zero]
          refine quiet_any rfl (.string x) (fun w' hw' => by have h := hw'.1; go_simp) ?_
          simp only [Act.put, List.setIfInBounds_toArray, List.set_cons_succ, List.set_cons_zero]
          repeat (go_big_quiet_step (first | exact fun _ => rfl | rfl))
          refine quiet_any rfl (.int .i64 (2 * (i : Int))) (fun w' hw' => by go_simp) ?_
          simp only [Act.put, List.setIfInBounds_toArray, List.set_cons_succ, List.set_cons_zero]
          refine quiet_any rfl (.int .i64 (2 * (i : Int) + 1)) (fun w' hw' => by go_simp) ?_
          simp only [Act.put, List.setIfInBounds_toArray, List.set_cons_succ, List.set_cons_zero]
          refine quiet_any rfl (.pointer (some ⟨bt, 2 * i + 1, none⟩)) (fun w' hw' => by go_simp; omega) ?_
          simp only [Act.put, List.setIfInBounds_toArray, List.set_cons_succ, List.set_cons_zero]
          refine quiet_any rfl (.string y) (fun w' hw' => by have h := hw'.2; go_simp) ?_
          simp only [Act.put, List.setIfInBounds_toArray, List.set_cons_succ, List.set_cons_zero]
          refine wpQuiet_nil ?_
          refine go_forced 13 (by kernel_rfl) (goOp_wp 13 rfl rfl (fun K hK => ?_))
          go_simp
          refine (hF wr.drew (hKW.out.below (hB.out.trans ((dB wr).mono hB.out.size)) hKW.out.lt)).mono ?_
          rintro e w2 ⟨rfl, hb2⟩
          have hL2 : Blk w2 bt (tw (nd s h i) (2 * m)) 9 := (show Blk wr.drew bt _ _ from hL.out).below hb2 hL.out.lt
          have C2 : w2.cell? ⟨bt, 2 * i, none⟩ = some (.string x) ∧ w2.cell? ⟨bt, 2 * i + 1, none⟩ = some (.string y) := by
            rw [hL2.cell, hL2.cell, ← hL.out.cell, ← hL.out.cell]; exact ⟨d1, d2⟩
          refine hK _ _ C2 ?_
          clear hF hK K
          refine go_calms [14] 1 rfl (by kernel_rfl) (by kernel_rfl) (by kernel_rfl) C2 ?_
          simp [nth]
          try simp only [Act.put, List.setIfInBounds_toArray, List.set_cons_succ, List.set_cons_zero]
          refine quiet_any rfl (.pointer (some ⟨bt, i, none⟩)) (fun w' hw' => by go_simp; omega) ?_
          simp only [Act.put, List.setIfInBounds_toArray, List.set_cons_succ, List.set_cons_zero]
          refine wpQuiet_nil ?_
          have hc := hL2.cell i
          rw [tw_get _ _ _ (by omega)] at hc
          have hfz := hL2.free i
          have hL3 := Box.mk (hL2.setCell i (.string z))
          rw [hnext.out] at hL3
          have hB3 : Box (Below w.heap.size w (w2.setCell ⟨bt, i, none⟩ (.string z))) := ⟨(mono_bel (hB.out.trans ((dB wr).mono hB.out.size)) hb2 (Nat.le_refl _)).setCell (by have := hbt.out; simp; omega) _⟩
          have C3 : (w2.setCell ⟨bt, i, none⟩ (.string z)).cell? ⟨bt, 2 * i, none⟩ = some (.string x) ∧ (w2.setCell ⟨bt, i, none⟩ (.string z)).cell? ⟨bt, 2 * i + 1, none⟩ = some (.string y) :=
            ⟨(World.cell?_setCell_other _ ⟨bt, i, none⟩ ⟨bt, 2 * i, none⟩ _ (by simp <;> omega)).trans C2.1, (World.cell?_setCell_other _ ⟨bt, i, none⟩ ⟨bt, 2 * i + 1, none⟩ _ (by simp <;> omega)).trans C2.2⟩
          clear hL hB hb2 hL2
          refine go_forced 15 (by kernel_rfl) (goOp_wp 15 rfl rfl (fun K hK => ?_))
          go_simp
          refine hK _ _ C3 ?_
          clear hK K
          refine go_done (by kernel_rfl) ?_
          go_simp
          go_wp2_with fail
          exact ⟨⟨i - 1, by omega, u_eq (by omega), hL3, hB3⟩, by simp [intOf]; omega⟩
        · obtain rfl : i = 0 := by omega
          have hL2 : Blk wr bt (tcells s h) 9 := by
            rw [htc.out, ← tw_congr (f := nd s h 0) fun p hp => ?_]
            · exact hL.out
            · unfold nd
              by_cases h1 : 0 < p
              · rw [if_pos h1]
              · rw [if_neg h1, plc, if_pos (by omega)]
          replace hL2 := Box.mk hL2
          clear hL
          go_wp2_with fail
          go_ret
          exact ⟨rfl, hL2.out, by have := hB.out; rwa [hbt.out] at this⟩
end Go.Proofs.YtbnmdieadaeeiaaGreatDoor
