/- Walk of a digest's Add. -/
import Derived.Test.YtdnhpldcnmbncaaDoorShaD
import Derived.Handy
import Derived.Test.YtdnhpldcnmbncaaDoorShaS
namespace Go.Proofs.YtdnhpldcnmbncaaDoor
open Go.RowKit

theorem KIs.apart {w : World} {b : Nat} {st : S8} {bl : List UInt8} {n : Nat} {t : TypeId} (h : KIs w) (hbl : bl.length = 64) (hB : Blk w b (dcells st bl n) t) : b ≠ 0 := by
  intro e
  subst e
  have h1 := h 8 (by omega)
  rw [hB.cell, dcells, List.getElem?_append_right (by rw [S8.cells_length]; omega), S8.cells_length, dcells_block bl n 0 hbl (by omega)] at h1
  simp at h1

theorem KIs.apart' {w : World} {b : Nat} {m : List UInt8} (h : KIs w) (hD : DigIs w b m) : b ≠ 0 := by
  obtain ⟨⟨k, u, bl, _, _, hb, _, hB⟩⟩ | ⟨_, st, bl, hb, hB⟩ := hD.ex
  · exact h.apart hb hB
  · exact h.apart hb hB

set_option maxHeartbeats 400000 in
theorem add_nil (s : ByteArray) (w : World) :
    Calls Tryd.prog 57 #[.pointer none, .string s] w fun e w' => e = .returned (.tuple #[]) ∧ w = w' := by
  go_enter Tryd.func57, Tryd.ntmps57
  go_wp2
  go_returns
  exact ⟨rfl, rfl⟩

set_option maxHeartbeats 800000 in
set_option maxRecDepth 100000 in
theorem add_some (b : Nat) (m : List UInt8) (s : ByteArray) (w : World) (hD : DigIs w b m) (hK : KIs w) (hsz : m.length + s.size ≤ 4611686018427387904) :
    Calls Tryd.prog 57 #[.pointer (some ⟨b, 0, none⟩), .string s] w fun e w' => e = .returned (.tuple #[]) ∧ DigAt w' b (m ++ s.data.toList) (m.length + s.size) ∧ Save w.heap.size b w w' := by
  have hbK := Box.mk (hK.apart' hD)
  obtain ⟨N, hN⟩ : ∃ N, m.length = N := ⟨_, rfl⟩
  have hbeg := begin_any b m w hD
  rw [hN] at hbeg hsz
  rw [hN]
  replace hN := Box.mk hN
  clear hD
  go_enter Tryd.func57, Tryd.ntmps57
  go_wp2_with (go_at_call 76; refine hbeg.mono ?_; rintro e w1 ⟨rfl, hA, hS⟩; obtain ⟨k, u, bl, hD⟩ := hA.open; have c72 := hD.size; have f72 := hD.free 72; have hS' := Box.mk hS; clear hS hA)
  go_loopw [1, 4] (fun s1 s4 wr => ∃ (c : List UInt8) (r : ByteArray) (k u : Nat) (bl : List UInt8), s1 = .string r ∧ s4 = .int .i64 u ∧ Box (c ++ r.data.toList = m ++ s.data.toList) ∧ DigK wr b c (N + s.size) k u bl ∧ Box (Save w.heap.size b w wr) ∧ r.size ≤ 4611686018427387904) (fun s1 _ _ => match s1 with | .string r => r.size | _ => 0)
  case atStart =>
    refine ⟨m, s, k, u, bl, rfl, ?_, ⟨rfl⟩, hD.resize _, ⟨hS'.out.setCell (.inl rfl) _⟩, by omega⟩
    have h1 := hN.out; have h2 := hD.len; have h3 := hD.lt
    exact u_eq (by omega)
  case round =>
    clear hD c72 f72 hS'
    obtain ⟨c, r, k, u, bl, rfl, rfl, hc, hD, hS, hr⟩ := hrel
    have hK' : Box (KIs wr) := ⟨hK.save hS.out hK.lt hbK.out⟩
    by_cases h0 : 0 < r.size
    · obtain ⟨n, hn⟩ : ∃ n, Nat.min r.size (64 - u) = n := ⟨_, rfl⟩
      have hu := hD.lt
      have hn1 : n ≤ r.size := hn ▸ Nat.min_le_left _ _
      have hn2 : u + n ≤ 64 := by
        have h2 := Nat.min_le_right r.size (64 - u)
        rw [show min r.size (64 - u) = n from hn] at h2; omega
      replace hn := Box.mk hn
      have hsl := slice_block wr b 8 u hu
      have hfit : 8 + u + Nat.min r.size (64 - u) ≤ (dcells (stateAt c k) bl (N + s.size)).length := by
        rw [dcells_length _ _ _ hD.full, hn.out]; omega
      have HD := Box.mk hD
      have HF := Box.mk hfit
      have HB := hD.blk
      clear hD hfit
      have hmeas := (min_part hn.out hu h0).1
      by_cases h64 : u + n = 64
      · have ht : ((u : Int) + (n : Int) == 64) = true := by simp; omega
        go_wp2_with (refine wpList_copy_str rfl (.tmp 31) (.tmp 32) 43 9 rfl 5 Tryd.underlying43 info_u8 b (8 + u) (64 - u) (64 - u) r rfl rfl _ 77 HB HF.out ?_; intro w2 hB2 hS2; rw [hn.out] at hB2 ⊢)
        refine region_quiet_tail_lit 6 (by kernel_rfl) (by kernel_rfl) ?_
        simp only [List.take_succ_cons, List.take_zero, List.drop_succ_cons, List.drop_zero]
        repeat (go_big_quiet_step (fail))
        refine wpQuiet_nil ?_
        intro _ hw'
        obtain ⟨nq, hw''⟩ := hw'
        subst hw''
        have hB3 := HD.out.laid (take_len r n hn1) hn2 hB2.out
        have hK2 : KIs w2 := hK'.out.save (hS2.out _) hK'.out.lt hbK.out
        have HMix := mix_any b (spl bl u (r.data.toList.take n)) (stateAt c k) _ (w2.drewN nq) 77 hB3 (fun i hi => dcells_block _ _ i (by rw [spl_length _ _ _ (by rw [HD.out.full, take_len r n hn1]; exact hn2)]; exact HD.out.full) hi) hK2
        go_wp2_with (go_at_call 77; refine HMix.mono ?_; rintro e w3 ⟨rfl, hB4, hS4⟩; replace hB4 := Box.mk hB4; replace hS4 := Box.mk hS4)
        have hd := HD.out
        have hA := DigAt.full (s := r.data.toList.take n) hd.len hd.full hd.tail (by rw [take_len r n hn1]; exact h64) hB4.out
        obtain ⟨bl', hK4⟩ := hA.at_u (k := k + 1) (u := 0) (by rw [List.length_append, take_len r n hn1, hd.len]; omega) (by omega)
        refine ⟨⟨c ++ r.data.toList.take n, r.extract n r.size, k + 1, 0, bl', rfl, rfl, ⟨goes_on hc.out⟩, hK4, ⟨((hS.out.trans (hS2.out _)).drewN nq).trans (hS4.out.mono ?_)⟩, ?_⟩, ?_⟩
        · exact Nat.le_trans hS.out.size (hS2.out 0).size
        · rw [rest_size r n hn1]; omega
        · show (r.extract n r.size).size < r.size
          rw [rest_size r n hn1]; exact hmeas
      · have ht : ((u : Int) + (n : Int) == 64) = false := by simp; omega
        go_wp2_with (refine wpList_copy_str rfl (.tmp 31) (.tmp 32) 43 9 rfl 5 Tryd.underlying43 info_u8 b (8 + u) (64 - u) (64 - u) r rfl rfl _ 77 HB HF.out ?_; intro w2 hB2 hS2; rw [hn.out] at hB2 ⊢)
        have hd := HD.out
        have hB3 := hd.laid (take_len r n hn1) hn2 hB2.out
        have hA := DigAt.part (s := r.data.toList.take n) hd.len hd.full hd.tail (by rw [take_len r n hn1]; omega) hB3
        obtain ⟨bl', hK4⟩ := hA.at_u (k := k) (u := u + n) (by rw [List.length_append, take_len r n hn1, hd.len]; omega) (by omega)
        refine ⟨⟨c ++ r.data.toList.take n, r.extract n r.size, k, u + n, bl', rfl, by go_num, ⟨goes_on hc.out⟩, hK4, ⟨hS.out.trans (hS2.out _)⟩, ?_⟩, ?_⟩
        · rw [rest_size r n hn1]; omega
        · show (r.extract n r.size).size < r.size
          rw [rest_size r n hn1]; exact hmeas
    · go_wp2
      go_end0
      refine ⟨rfl, ?_, hS.out⟩
      have : r.data.toList = [] := by
        have : r.data.toList.length = r.size := by rw [Array.length_toList]; rfl
        exact List.length_eq_zero_iff.1 (by omega)
      have e := hc.out
      rw [this, List.append_nil] at e
      rw [← e]
      exact hD.shut
end Go.Proofs.YtdnhpldcnmbncaaDoor
