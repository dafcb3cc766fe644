/- Walks of a digest's methods. | Slices of the arrays that a digest and its hash are made in. | Walk of a digest's Add. -/
import Derived.Handy
import Derived.Test.YthkfefkcjcgfkaaGreatDoorWa3
import Derived.Test.YthkfefkcjcgfkaaGreatDoorWa2
set_option linter.all false
namespace Go.Proofs.YthkfefkcjcgfkaaGreatDoor
open Go.RowKit

set_option maxHeartbeats 400000 in
set_option maxRecDepth 100000 in
theorem begin_zero (b : Nat) (st : S8) (bl : List UInt8) (w : World) (hbl : bl.length = 64) (hB : Blk w b (dcells st bl 0) 169) :
    Calls Tryz.prog 156 #[.pointer (some ⟨b, 0, none⟩)] w fun e w' => e = .returned (.tuple #[]) ∧ DigAt w' b [] 0 ∧ Save w.heap.size b w w' := by
  have c72 := hB.cell 72
  rw [dcells_size _ _ _ hbl] at c72
  have hlt := hB.lt
  have hB2 := hB.alloc (.cells (first8.map fun x => Value.int .u32 (U x)).toArray 166)
  have hst := run_store_row (P := Tryz.prog) (o := 0) hB2 (first8.map fun x => Value.int .u32 (U x)) (by rw [dcells_length _ _ _ hbl]; decide) (words_one _)
  rw [dcells_first] at hst
  have HB := Box.mk hB2
  clear hB hB2
  go_enter Tryz.func156, Tryz.ntmps156
  go_wp2_with (go_at_call 163; refine (first_any _).mono ?_; rintro e w' ⟨rfl, rfl⟩)
  go_end0
  refine ⟨rfl, DigAt.start hbl (setRow_blk HB.out _), ?_⟩
  exact ((Save.refl _ _ _).alloc (Nat.le_refl _) _).trans (setRow_save _ _ _ _)
set_option maxHeartbeats 400000 in
set_option maxRecDepth 100000 in
theorem begin_some (b : Nat) (st : S8) (bl : List UInt8) (n : Nat) (w : World) (hbl : bl.length = 64) (hn : 0 < n) (hB : Blk w b (dcells st bl n) 169) :
    Calls Tryz.prog 156 #[.pointer (some ⟨b, 0, none⟩)] w fun e w' => e = .returned (.tuple #[]) ∧ w = w' := by
  have c72 := hB.cell 72
  rw [dcells_size _ _ _ hbl] at c72
  have h0 : ((n : Int) == 0) = false := by simp; omega
  clear hB
  go_enter Tryz.func156, Tryz.ntmps156
  go_wp2
  go_end0
  exact ⟨rfl, rfl⟩
theorem begin_any (b : Nat) (m : List UInt8) (w : World) (h : DigIs w b m) :
    Calls Tryz.prog 156 #[.pointer (some ⟨b, 0, none⟩)] w fun e w' => e = .returned (.tuple #[]) ∧ DigAt w' b m m.length ∧ Save w.heap.size b w w' := by
  by_cases hm : m = []
  · subst hm
    obtain ⟨st, bl, hbl, hB⟩ := h.empty
    exact begin_zero b st bl w hbl hB
  · have hA := h.at hm
    obtain ⟨k, u, bl, hc, hu, hbl, ht, hB⟩ := hA.ex
    refine (begin_some b _ bl _ w hbl (List.length_pos_iff.2 hm) hB).mono fun e w' ⟨he, hw⟩ => ?_
    subst hw
    exact ⟨he, hA, Save.refl _ _ _⟩
end Go.Proofs.YthkfefkcjcgfkaaGreatDoor

namespace Go.Proofs.YthkfefkcjcgfkaaGreatDoor
open Go.RowKit
theorem len_block : Tryz.prog.arrayLen 167 = 64 := by kernel_rfl
theorem elem_block : Tryz.prog.elem 167 = 5 := by kernel_rfl
theorem info_u8 : (Tryz.prog.info? 5).map (·.size) = some 1 := by kernel_rfl
theorem size_u8 (w : World) : (sizeOf 5).run Tryz.prog w = .ok 1 w := by
  have := info_u8
  cases hq : Tryz.prog.info? 5 with
  | none => rw [hq] at this; cases this
  | some i =>
    rw [hq] at this
    simp only [Option.map_some, Option.some.injEq] at this
    simp [sizeOf, typeInfo, hq, this]
theorem slice_block (w : World) (b o u : Nat) (hu : u < 64) :
    (Instr.sliceAt 167 (.pointer (some ⟨b, o, none⟩)) (some (.int .i64 (u : Int))) none none).run Tryz.prog w = .ok (.slice (some ⟨b, o + u, none⟩) (64 - u) (64 - u)) w := by
  rw [run_sliceAt_array_l w 167 ⟨b, o, none⟩ (by rw [len_block, elem_block]; exact Tryz.underlying167) .i64 u (by omega) (by rw [len_block]; omega), len_block, elem_block, size_u8]
  have : ¬ 64 = u := by omega
  simp [Result.andThen, slicedAt, this, Addr.add]
end Go.Proofs.YthkfefkcjcgfkaaGreatDoor

namespace Go.Proofs.YthkfefkcjcgfkaaGreatDoor
open Go.RowKit

theorem KIs.apart {w : World} {b : Nat} {st : S8} {bl : List UInt8} {n : Nat} {t : TypeId} (h : KIs w) (hbl : bl.length = 64) (hB : Blk w b (dcells st bl n) t) : b ≠ 8 := by
  intro e
  subst e
  have h1 := h 8 (by omega)
  rw [hB.cell, dcells, List.getElem?_append_right (by rw [S8.cells_length]; omega), S8.cells_length, dcells_block bl n 0 hbl (by omega)] at h1
  simp at h1

theorem KIs.apart' {w : World} {b : Nat} {m : List UInt8} (h : KIs w) (hD : DigIs w b m) : b ≠ 8 := by
  obtain ⟨⟨k, u, bl, _, _, hb, _, hB⟩⟩ | ⟨_, st, bl, hb, hB⟩ := hD.ex
  · exact h.apart hb hB
  · exact h.apart hb hB

set_option maxHeartbeats 800000 in
set_option maxRecDepth 100000 in
theorem add_some (b : Nat) (m : List UInt8) (s : ByteArray) (w : World) (hD : DigIs w b m) (hK : KIs w) (hsz : m.length + s.size ≤ 4611686018427387904) :
    Calls Tryz.prog 148 #[.pointer (some ⟨b, 0, none⟩), .string s] w fun e w' => e = .returned (.tuple #[]) ∧ DigAt w' b (m ++ s.data.toList) (m.length + s.size) ∧ Save w.heap.size b w w' := by
  have hbK := Box.mk (hK.apart' hD)
  obtain ⟨N, hN⟩ : ∃ N, m.length = N := ⟨_, rfl⟩
  have hbeg := begin_any b m w hD
  rw [hN] at hbeg hsz
  rw [hN]
  replace hN := Box.mk hN
  clear hD
  go_enter Tryz.func148, Tryz.ntmps148
  go_wp2_with (go_at_call 156; refine hbeg.mono ?_; rintro e w1 ⟨rfl, hA, hS⟩; obtain ⟨k, u, bl, hD⟩ := hA.open; have c72 := hD.size; have f72 := hD.free 72; have hS' := Box.mk hS; clear hS hA)
  go_loopw [1, 4] (fun s1 s4 wr => ∃ (c : List UInt8) (r : ByteArray) (k u : Nat) (bl : List UInt8), s1 = .string r ∧ s4 = .int .i64 u ∧ Box (c ++ r.data.toList = m ++ s.data.toList) ∧ DigK wr b c (N + s.size) k u bl ∧ Box (Save w.heap.size b w wr) ∧ r.size ≤ 4611686018427387904) (fun s1 _ _ => match s1 with | .string r => r.size | _ => 0)
  case atStart =>
    refine ⟨m, s, k, u, bl, rfl, ?_, ⟨rfl⟩, hD.resize _, ⟨hS'.out.setCell (.inl rfl) _⟩, by omega⟩
    have h1 := hN.out; have h2 := hD.len; have h3 := hD.lt
    exact u_eq (by omega)
  case round =>
    clear hD c72 f72 hS'
    obtain ⟨c, r, k, u, bl, rfl, rfl, hc, hD, hS, hr⟩ := hrel
    have hK' : Box (KIs wr) := ⟨hK.save hS.out hK.lt hbK.out⟩
    by_cases h0 : 0 < r.size
    · obtain ⟨n, hn⟩ : ∃ n, Nat.min r.size (64 - u) = n := ⟨_, rfl⟩
      have hu := hD.lt
      have hn1 : n ≤ r.size := hn ▸ Nat.min_le_left _ _
      have hn2 : u + n ≤ 64 := by
        have h2 := Nat.min_le_right r.size (64 - u)
        rw [show min r.size (64 - u) = n from hn] at h2; omega
      replace hn := Box.mk hn
      have hsl := slice_block wr b 8 u hu
      have hfit : 8 + u + Nat.min r.size (64 - u) ≤ (dcells (stateAt c k) bl (N + s.size)).length := by
        rw [dcells_length _ _ _ hD.full, hn.out]; omega
      have HD := Box.mk hD
      have HF := Box.mk hfit
      have HB := hD.blk
      clear hD hfit
      have hmeas := (min_part hn.out hu h0).1
      by_cases h64 : u + n = 64
      · have ht : ((u : Int) + (n : Int) == 64) = true := by simp; omega
        go_wp2_with (refine wpList_copy_str rfl (.tmp 31) (.tmp 32) 63 9 rfl 5 Tryz.underlying63 info_u8 b (8 + u) (64 - u) (64 - u) r rfl rfl _ 169 HB HF.out ?_; intro w2 hB2 hS2; rw [hn.out] at hB2 ⊢)
        refine region_quiet_tail_lit 6 (by kernel_rfl) (by kernel_rfl) ?_
        simp only [List.take_succ_cons, List.take_zero, List.drop_succ_cons, List.drop_zero]
        repeat (go_big_quiet_step (fail))
        refine wpQuiet_nil ?_
        intro _ hw'
        obtain ⟨nq, hw''⟩ := hw'
        subst hw''
        have hB3 := HD.out.laid (take_len r n hn1) hn2 hB2.out
        have hK2 : KIs w2 := hK'.out.save (hS2.out _) hK'.out.lt hbK.out
        have HMix := mix_any b (spl bl u (r.data.toList.take n)) (stateAt c k) _ (w2.drewN nq) 169 hB3 (fun i hi => dcells_block _ _ i (by rw [spl_length _ _ _ (by rw [HD.out.full, take_len r n hn1]; exact hn2)]; exact HD.out.full) hi) hK2
        go_wp2_with (go_at_call 157; refine HMix.mono ?_; rintro e w3 ⟨rfl, hB4, hS4⟩; replace hB4 := Box.mk hB4; replace hS4 := Box.mk hS4)
        have hd := HD.out
        have hA := DigAt.full (s := r.data.toList.take n) hd.len hd.full hd.tail (by rw [take_len r n hn1]; exact h64) hB4.out
        obtain ⟨bl', hK4⟩ := hA.at_u (k := k + 1) (u := 0) (by rw [List.length_append, take_len r n hn1, hd.len]; omega) (by omega)
        refine ⟨⟨c ++ r.data.toList.take n, r.extract n r.size, k + 1, 0, bl', rfl, rfl, ⟨goes_on hc.out⟩, hK4, ⟨((hS.out.trans (hS2.out _)).drewN nq).trans (hS4.out.mono ?_)⟩, ?_⟩, ?_⟩
        · exact Nat.le_trans hS.out.size (hS2.out 0).size
        · rw [rest_size r n hn1]; omega
        · show (r.extract n r.size).size < r.size
          rw [rest_size r n hn1]; exact hmeas
      · have ht : ((u : Int) + (n : Int) == 64) = false := by simp; omega
        go_wp2_with (refine wpList_copy_str rfl (.tmp 31) (.tmp 32) 63 9 rfl 5 Tryz.underlying63 info_u8 b (8 + u) (64 - u) (64 - u) r rfl rfl _ 169 HB HF.out ?_; intro w2 hB2 hS2; rw [hn.out] at hB2 ⊢)
        have hd := HD.out
        have hB3 := hd.laid (take_len r n hn1) hn2 hB2.out
        have hA := DigAt.part (s := r.data.toList.take n) hd.len hd.full hd.tail (by rw [take_len r n hn1]; omega) hB3
        obtain ⟨bl', hK4⟩ := hA.at_u (k := k) (u := u + n) (by rw [List.length_append, take_len r n hn1, hd.len]; omega) (by omega)
        refine ⟨⟨c ++ r.data.toList.take n, r.extract n r.size, k, u + n, bl', rfl, by go_num, ⟨goes_on hc.out⟩, hK4, ⟨hS.out.trans (hS2.out _)⟩, ?_⟩, ?_⟩
        · rw [rest_size r n hn1]; omega
        · show (r.extract n r.size).size < r.size
          rw [rest_size r n hn1]; exact hmeas
    · go_wp2
      go_end0
      refine ⟨rfl, ?_, hS.out⟩
      have : r.data.toList = [] := by
        have : r.data.toList.length = r.size := by rw [Array.length_toList]; rfl
        exact List.length_eq_zero_iff.1 (by omega)
      have e := hc.out
      rw [this, List.append_nil] at e
      rw [← e]
      exact hD.shut
end Go.Proofs.YthkfefkcjcgfkaaGreatDoor
