/- Walk of KeysBack. -/
import Derived.Test.YtbnmdieadaeeiaaGreatDoorKyG
namespace Go.Proofs.YtbnmdieadaeeiaaGreatDoor
open Go Go.RowKit

/-- The first n texts of a slice that came in. -/
theorem parts_cell {w : World} {a : Option Addr} {l c : Nat} {ps : List ByteArray} (h : PartsAt w (.slice a l c) ps) (h0 : 0 < ps.length) : ∃ blk off, a = some ⟨blk, off, none⟩ ∧ blk < w.heap.size ∧ ∀ i, i < ps.length → w.cell? ⟨blk, off + i, none⟩ = some (.string (ps.getD i ByteArray.empty)) := by
  obtain ⟨a', c', he, hh⟩ := h.ex
  cases he
  obtain ⟨blk, off, e, hl, hc⟩ := hh h0
  exact ⟨blk, off, e, hl, hc⟩

theorem number_sig (s t : ByteArray) (h i : Nat) (w : World) (hh : h ≤ 4) (hi : i < 2 ^ h) :
    Calls Tryz.prog 23 #[.string (keyS s h i t)] w fun e w' => e = .returned (.tuple #[.int .i64 (i : Int), .int .i64 0]) ∧ Below w.heap.size w w' := by
  have hN := number_key (keyS s h i t) w
  rwa [num_back s h i t hh hi] at hN
theorem verify_sig (s t : ByteArray) (h i : Nat) (w : World) (hK : KIs w) (hh : h ≤ 4) (hi : i < 2 ^ h) (ht : t.size ≤ 1125899906842624) :
    Calls Tryz.prog 14 #[.string (keyID s h), .string t, .string (keyS s h i t)] w fun e w' => e = .returned (.int .i64 0) ∧ Below w.heap.size w w' := by
  have hN := verify_any (keyID s h) t (keyS s h i t) w hK ht
  rwa [ver_back s h i t hh hi] at hN
set_option maxHeartbeats 3200000 in
set_option maxRecDepth 100000 in
theorem back_some (s : ByteArray) (x blk off cap : Nat) (ps : List ByteArray) (w : World) (hK : KIs w) (hs : s.size ≤ 140737488351232) (hx : x < 256) (hlt : blk < w.heap.size) (hc : ∀ i, i < ps.length → w.cell? ⟨blk, off + i, none⟩ = some (.string (ps.getD i ByteArray.empty)))
    (hps : ∀ t ∈ ps, t.size ≤ 140737488351232) (hcap : ps.length ≤ cap) (hm : cap ≤ maxLen) :
    Calls Tryz.prog 6 #[.string s, .int .u8 (x : Int), .slice (some ⟨blk, off, none⟩) ps.length cap] w fun e w' => e = .returned (.bool true) ∧ Below w.heap.size w w' := by
  have h0 := signs_key w hK
  obtain ⟨h, hh⟩ : ∃ h, x % 4 = h := ⟨_, rfl⟩
  have hh4 : h ≤ 4 := by omega
  have hp := pow_le h hh4
  have hNew := fun w1 => new_ok s h w1 hh4
  have hmod : (x : Int) % 4 = (h : Int) := by omega
  obtain ⟨m, hmm⟩ : ∃ m, 2 ^ h = m := ⟨_, rfl⟩
  have hpi : (2 : Int) ^ h = (m : Int) := by rw [← hmm]; simp
  have hm0 : 0 < m := by rw [← hmm]; exact Nat.two_pow_pos h
  rw [hmm] at hp
  have hSign := fun b O u t w1 (hK1 : KIs w1) (k : KeyAt w1 b O s h u) (ht : t.size ≤ 140737488351232) (hu : u < m) => sign_key b O s t h u w1 k hK1 (by omega) (by omega) (by omega)
  have hSpent := fun b O t w1 (k : KeyAt w1 b O s h m) => sign_spent b O s t h w1 (by rw [hmm]; exact k)
  have hNum := fun t i w1 (hi : i < m) => number_sig s t h i w1 hh4 (by omega)
  have hVer := fun t i w1 (hK1 : KIs w1) (ht : t.size ≤ 140737488351232) (hi : i < m) => verify_sig s t h i w1 hK1 hh4 (by omega) (by omega)
  have hID := fun b O u w1 (hK1 : KIs w1) (k : KeyAt w1 b O s h u) => id_key b O s h u w1 k hK1 (by omega)
  have hUsed := fun b O u w1 (k : KeyAt w1 b O s h u) => used_any b O s h u w1 k
  have hLeft := fun b O w1 (k : KeyAt w1 b O s h m) => left_any b O s h m w1 k (by omega)
  rw [hmm, Nat.sub_self] at hLeft
  have hnot : ∀ (x : Bool) (w : World), (Op.unary .not (.bool x)).run Tryz.prog w = .ok (.bool (!x)) w := fun _ _ => rfl
  obtain ⟨n, hn⟩ : ∃ n, min ps.length 10 = n := ⟨_, rfl⟩
  have hmin : min (ps.length : Int) 10 = (n : Int) := by omega
  have hnl : n ≤ ps.length := by omega
  have hn10 : n ≤ 10 := by omega
  have hcap63 : cap ≤ 9223372036854775807 := by unfold maxLen at hm; omega
  have hKB := Box.mk hK
  replace hNew := Box.mk hNew
  replace hSign := Box.mk hSign
  replace hSpent := Box.mk hSpent
  replace hNum := Box.mk hNum
  replace hVer := Box.mk hVer
  replace hID := Box.mk hID
  replace hUsed := Box.mk hUsed
  replace hLeft := Box.mk hLeft
  replace hc := Box.mk hc
  replace hps := Box.mk hps
  have hltB := Box.mk hlt
  clear hK hm hn hh hs hmm hlt
  go_enter Tryz.func6, Tryz.ntmps6
  go_wp2_with fail
  refine h0.mono ?_
  clear h0
  rintro e w1 ⟨rfl, hb1⟩
  have hF := hNew.out w1
  have hK1 := hKB.out.below hb1 hKB.out.lt
  replace hb1 := Box.mk hb1
  replace hK1 := Box.mk hK1
  clear hNew
  go_wp2_with fail
  refine hF.mono ?_
  clear hF
  rintro e w2 ⟨rfl, k2, hb2⟩
  have hB2 : Box (Below w.heap.size w w2) := ⟨mono_bel hb1.out hb2 (Nat.le_refl _)⟩
  have hKe : Box (w.heap.size ≤ w1.heap.size) := ⟨hb1.out.size⟩
  obtain ⟨b, hb⟩ : ∃ b, w1.heap.size = b := ⟨_, rfl⟩
  rw [hb] at k2 hKe ⊢
  replace k2 := Box.mk k2
  clear hb1 hb2 hK1 hb
  go_wp2_with fail
  clear hmod hpi hmin
  go_loopw [10, 11, 12, 13, 14, 15, 41] (fun _ _ _ _ _ _ q wr => ∃ i : Nat, ∃ O : Option Nat, i ≤ n ∧ q = .int .i64 (i : Int) ∧ Box (KeyAt wr b O s h (min i m)) ∧ Box (Below w.heap.size w wr)) (fun _ _ _ _ _ _ q _ => n - (intOf q).toNat)
  case atStart => exact ⟨0, none, by omega, rfl, ⟨by rw [Nat.zero_min]; exact k2.out⟩, hB2⟩
  case round =>
    clear hB2 k2
    obtain ⟨i, O, hi, rfl, hk, hB⟩ := hrel
    by_cases hlt : i < n
    · have hcell : wr.cell? ⟨blk, off + i, none⟩ = some (.string (ps.getD i ByteArray.empty)) := (hB.out.cell (p := ⟨blk, off + i, none⟩) hltB.out).trans (hc.out i (by omega))
      have hts : (ps.getD i ByteArray.empty).size ≤ 140737488351232 := hps.out _ (by
        have hil : i < ps.length := by omega
        rw [List.getD_eq_getElem?_getD, List.getElem?_eq_getElem hil]; exact List.getElem_mem hil)
      obtain ⟨t, ht⟩ : ∃ t, ps.getD i ByteArray.empty = t := ⟨_, rfl⟩
      rw [ht] at hcell hts
      replace ht := Box.mk ht
      have hKr := hKB.out.below hB.out hKB.out.lt
      by_cases him : i < m
      · have hk0 := hk.out
        rw [show min i m = i by omega] at hk0
        have hF := hSign.out b O i t wr hKr hk0 hts him
        have hFn := fun w1 => hNum.out t i w1 him
        have hFv := fun w1 (hK1 : KIs w1) => hVer.out t i w1 hK1 hts him
        have hzs := keyS_size s h i t
        obtain ⟨z, hz⟩ : ∃ z, keyS s h i t = z := ⟨_, rfl⟩
        obtain ⟨y, hy⟩ : ∃ y, keyID s h = y := ⟨_, rfl⟩
        have hFi := hID.out b
        rw [hz] at hF hFn hFv
        rw [hy] at hFv hFi
        have hlim : ¬ (m : Int) ≤ (i : Int) := by omega
        replace hz := Box.mk hz
        replace hy := Box.mk hy
        replace hFn := Box.mk hFn
        replace hFv := Box.mk hFv
        replace hFi := Box.mk hFi
        have hkB := Box.mk hk0
        replace hKr := Box.mk hKr
        clear hk hk0 hzs hts
        go_wp2_with fail
        refine hF.mono ?_
        clear hF
        rintro e w3 ⟨rfl, g3⟩
        have hK3 := g3.kis hkB.out hKr.out
        have hB3 := g3.bel hB.out hKe.out
        obtain ⟨⟨O3, k3, _⟩, _⟩ := g3
        have hF := hFn.out w3
        replace k3 := Box.mk k3
        replace hK3 := Box.mk hK3
        replace hB3 := Box.mk hB3
        clear hkB hKr hB hFn hcell
        go_wp2_with fail
        refine hF.mono ?_
        clear hF
        rintro e w4 ⟨rfl, hb4⟩
        have k4 := k3.out.here hb4
        have hK4 := hK3.out.below hb4 hK3.out.lt
        have hB4 := mono_bel hB3.out hb4 (Nat.le_refl _)
        have hF := hUsed.out b O3 (i + 1) w4 k4
        have hF2 := hFi.out O3 (i + 1) w4 hK4 k4
        replace k4 := Box.mk k4
        replace hK4 := Box.mk hK4
        replace hB4 := Box.mk hB4
        clear k3 hK3 hB3 hb4 hFi
        go_wp2_with fail
        refine hF.mono ?_
        clear hF
        rintro e w4' ⟨rfl, rfl⟩
        go_wp2_with fail
        refine hF2.mono ?_
        clear hF2
        rintro e w5 ⟨rfl, g5⟩
        have hK5 := g5.kis k4.out hK4.out
        have hB5 := g5.bel hB4.out hKe.out
        obtain ⟨⟨O5, k5, _⟩, _⟩ := g5
        have hF := hFv.out w5 hK5
        replace k5 := Box.mk k5
        replace hB5 := Box.mk hB5
        clear k4 hK4 hB4 hFv hK5
        go_wp2_with fail
        refine hF.mono ?_
        clear hF
        rintro e w6 ⟨rfl, hb6⟩
        have hB6 : Box (Below w.heap.size w w6) := ⟨mono_bel hB5.out hb6 (Nat.le_refl _)⟩
        have k6 : Box (KeyAt w6 b O5 s h (min (i + 1) m)) := ⟨by rw [show min (i + 1) m = i + 1 by omega]; exact k5.out.here hb6⟩
        clear k5 hB5 hb6
        go_wp2_with fail
        exact ⟨⟨i + 1, O5, by omega, by go_num, k6, hB6⟩, by simp [intOf]; omega⟩
      · have hk0 := hk.out
        rw [show min i m = m by omega] at hk0
        have hF := hSpent.out b O t wr hk0
        have hF2 := hLeft.out b O wr hk0
        have hlim : (m : Int) ≤ (i : Int) := by omega
        have hk1 : Box (KeyAt wr b O s h (min (i + 1) m)) := ⟨by rw [show min (i + 1) m = m by omega]; exact hk0⟩
        clear hk hk0 hts
        go_wp2_with fail
        refine hF.mono ?_
        clear hF
        rintro e w3 ⟨rfl, rfl⟩
        go_wp2_with fail
        refine hF2.mono ?_
        clear hF2
        rintro e w3 ⟨rfl, rfl⟩
        go_wp2_with fail
        exact ⟨⟨i + 1, O, by omega, by go_num, hk1, hB⟩, by simp [intOf]; omega⟩
    · obtain rfl : i = n := by omega
      go_wp2_with fail
      go_ret
      exact ⟨rfl, hB.out⟩
set_option maxHeartbeats 3200000 in
set_option maxRecDepth 100000 in
theorem back_none (s : ByteArray) (x : Nat) (a : Option Addr) (cap : Nat) (w : World) (hK : KIs w) (hx : x < 256) (ha : a = none → cap = 0) (hm : cap ≤ maxLen) :
    Calls Tryz.prog 6 #[.string s, .int .u8 (x : Int), .slice a 0 cap] w fun e w' => e = .returned (.bool true) ∧ Below w.heap.size w w' := by
  have h0 := signs_key w hK
  obtain ⟨h, hh⟩ : ∃ h, x % 4 = h := ⟨_, rfl⟩
  have hh4 : h ≤ 4 := by omega
  have hp := pow_le h hh4
  have hNew := fun w1 => new_ok s h w1 hh4
  have hmod : (x : Int) % 4 = (h : Int) := by omega
  obtain ⟨m, hmm⟩ : ∃ m, 2 ^ h = m := ⟨_, rfl⟩
  have hpi : (2 : Int) ^ h = (m : Int) := by rw [← hmm]; simp
  rw [hmm] at hp
  have hnot : ∀ (x : Bool) (w : World), (Op.unary .not (.bool x)).run Tryz.prog w = .ok (.bool (!x)) w := fun _ _ => rfl
  have hcap63 : cap ≤ 9223372036854775807 := by unfold maxLen at hm; omega
  have hmin : min (0 : Int) 10 = 0 := by omega
  replace hNew := Box.mk hNew
  clear hK hm hh hmm
  cases a with
  | none =>
    obtain rfl := ha rfl
    clear hcap63 ha
    go_enter Tryz.func6, Tryz.ntmps6
    go_wp2_with fail
    refine h0.mono ?_
    clear h0
    rintro e w1 ⟨rfl, hb1⟩
    have hF := hNew.out w1
    replace hb1 := Box.mk hb1
    clear hNew
    go_wp2_with fail
    refine hF.mono ?_
    clear hF
    rintro e w2 ⟨rfl, _, hb2⟩
    have hB2 : Box (Below w.heap.size w w2) := ⟨mono_bel hb1.out hb2 (Nat.le_refl _)⟩
    clear hb1 hb2
    go_wp2_with fail
    clear hmod hpi
    go_loopw [10, 11, 12, 13, 14, 15, 41] (fun _ _ _ _ _ _ q wr => q = .int .i64 0 ∧ wr = w2) (fun _ _ _ _ _ _ q _ => 0)
    case atStart => exact ⟨rfl, rfl⟩
    case round =>
      obtain ⟨rfl, rfl⟩ := hrel
      go_wp2_with fail
      go_ret
      exact ⟨rfl, hB2.out⟩
  | some a =>
    clear ha
    go_enter Tryz.func6, Tryz.ntmps6
    go_wp2_with fail
    refine h0.mono ?_
    clear h0
    rintro e w1 ⟨rfl, hb1⟩
    have hF := hNew.out w1
    replace hb1 := Box.mk hb1
    clear hNew
    go_wp2_with fail
    refine hF.mono ?_
    clear hF
    rintro e w2 ⟨rfl, _, hb2⟩
    have hB2 : Box (Below w.heap.size w w2) := ⟨mono_bel hb1.out hb2 (Nat.le_refl _)⟩
    clear hb1 hb2
    go_wp2_with fail
    clear hmod hpi
    go_loopw [10, 11, 12, 13, 14, 15, 41] (fun _ _ _ _ _ _ q wr => q = .int .i64 0 ∧ wr = w2) (fun _ _ _ _ _ _ q _ => 0)
    case atStart => exact ⟨rfl, rfl⟩
    case round =>
      obtain ⟨rfl, rfl⟩ := hrel
      go_wp2_with fail
      go_ret
      exact ⟨rfl, hB2.out⟩
theorem law_back (s : ByteArray) (x : Nat) (a : Option Addr) (ps : List ByteArray) (cap : Nat) (w : World) (hK : KIs w) (hs : s.size ≤ 140737488351232) (hx : x < 256) (hv : PartsAt w (.slice a ps.length cap) ps) (hcap : ps.length ≤ cap) (hm : cap ≤ maxLen) (ha : a = none → cap = 0)
    (hps : ∀ t ∈ ps, t.size ≤ 140737488351232) :
    Calls Tryz.prog 6 #[.string s, .int .u8 (x : Int), .slice a ps.length cap] w fun e w' => e = .returned (.bool true) ∧ Below w.heap.size w w' := by
  by_cases h0 : 0 < ps.length
  · obtain ⟨blk, off, rfl, hlt, hc⟩ := parts_cell hv h0
    exact back_some s x blk off cap ps w hK hs hx hlt hc hps hcap hm
  · obtain rfl : ps = [] := List.length_eq_zero_iff.1 (by omega)
    exact back_none s x a cap w hK hx ha hm
end Go.Proofs.YtbnmdieadaeeiaaGreatDoor
