/- What the law CellLimits keeps. -/
import Derived.Test.YtajjihhjkpgkiaaCrA
import Derived.Test.YtajjihhjkpgkiaaCeW
namespace Go.Proofs.Ytajjihhjkpgkiaa
open Go.RowKit Go.Maps

def mem (i : Nat) : Bs × Bs := ([1, UInt8.ofNat i], [])
def ct (i : Nat) (z : Bs) : Ct := (List.range i).map mem ++ cK z
theorem mem_lt {i j : Nat} (h : j < i) (hi : i < 64) : (mem j).1 < [1, UInt8.ofNat i] := by
  have : (UInt8.ofNat j) < (UInt8.ofNat i) := by
    rw [UInt8.lt_iff_toNat_lt, UInt8.toNat_ofNat', UInt8.toNat_ofNat']; omega
  show ([1, UInt8.ofNat j] : List UInt8) < [1, UInt8.ofNat i]
  simp [List.cons_lt_cons_iff, this]
theorem mem_k (i : Nat) : ([1, UInt8.ofNat i] : Bs) < [107] := by
  have : (1 : UInt8) < 107 := by decide
  simp [List.cons_lt_cons_iff, this]
theorem putC_skip {l r : Ct} {n t : Bs} (h : ∀ p ∈ l, p.1 < n) : putC (l ++ r) n t = l ++ putC r n t := by
  induction l with
  | nil => rfl
  | cons q s ih => rw [List.cons_append, putC, if_pos (h q (by simp)), ih fun p hp => h p (by simp [hp])]; rfl
theorem put_ct (i : Nat) (hi : i < 64) (z : Bs) : putC (ct i z) [1, UInt8.ofNat i] [] = ct (i + 1) z := by
  unfold ct
  rw [putC_skip (by
    intro p hp
    obtain ⟨j, hj, rfl⟩ := List.mem_map.1 hp
    exact mem_lt (List.mem_range.1 hj) hi)]
  have hk : ¬ (([107] : Bs) < [1, UInt8.ofNat i]) := fun h => lt_irrefl_bs _ (lt_trans_bs (mem_k i) h)
  have hk2 : ¬ (([107] : Bs) = [1, UInt8.ofNat i]) := fun h => by simp at h
  have : putC (cK z) [1, UInt8.ofNat i] [] = mem i :: cK z := by
    show (if ([107] : Bs) < [1, UInt8.ofNat i] then _ else if ([107] : Bs) = [1, UInt8.ofNat i] then _ else _) = _
    rw [if_neg hk, if_neg hk2]
    rfl
  rw [this, List.range_succ, List.map_append, List.append_assoc]
  rfl
theorem ct_len (i : Nat) (z : Bs) : (ct i z).length = i + 1 := by simp [ct, cK]
theorem get_ct (i : Nat) (hi : i < 64) (z : Bs) : getC (ct i z) [1, UInt8.ofNat i] = none := by
  unfold getC
  rw [Option.map_eq_none_iff, List.find?_eq_none]
  intro p hp
  rw [decide_eq_true_iff]
  rintro he
  rcases List.mem_append.1 hp with hp | hp
  · obtain ⟨j, hj, rfl⟩ := List.mem_map.1 hp
    have := mem_lt (List.mem_range.1 hj) hi
    rw [he] at this
    exact lt_irrefl_bs _ this
  · obtain rfl : p = ([107], z) := by simpa [cK] using hp
    simp at he
theorem putE_ct (i : Nat) (hi : i < 64) (z : Bs) : putE (ct i z) [1, UInt8.ofNat i] [] = if i < 63 then 0 else 6 := by
  unfold putE
  rw [if_neg (by simp), if_neg (by simp)]
  by_cases h : i < 63
  · rw [if_neg (by rw [ct_len]; omega), if_pos h]
  · rw [if_pos ⟨get_ct i hi z, by rw [ct_len]; omega⟩, if_neg h]
theorem putM_ct (i : Nat) (hi : i < 64) (z : Bs) : putM (ct i z) [1, UInt8.ofNat i] [] = ct (min (i + 1) 63) z := by
  unfold putM
  rw [putE_ct i hi z]
  by_cases h : i < 63
  · rw [if_pos h, if_pos rfl, put_ct i hi z, show min (i + 1) 63 = i + 1 by omega]
  · rw [if_neg h, if_neg (by decide), show min (i + 1) 63 = i by omega]
/-- What stands behind the loop, with the names tried then. -/
theorem getE_ct (n : Bs) (z : Bs) (hk : n ≠ [107]) (h : ∀ i, i < 63 → n ≠ [1, UInt8.ofNat i]) : getC (ct 63 z) n = none := by
  unfold getC
  rw [Option.map_eq_none_iff, List.find?_eq_none]
  intro p hp
  rw [decide_eq_true_iff]
  rintro he
  rcases List.mem_append.1 hp with hp | hp
  · obtain ⟨j, hj, rfl⟩ := List.mem_map.1 hp
    exact h j (List.mem_range.1 hj) he.symm
  · obtain rfl : p = ([107], z) := by simpa [cK] using hp
    exact hk he.symm
theorem full_z (z : Bs) : putE (ct 63 z) [122] [] = 6 := by
  unfold putE
  rw [if_neg (by simp), if_neg (by simp), if_pos ⟨getE_ct _ _ (by decide) (fun i _ h => by simp at h), by rw [ct_len]; omega⟩]
theorem put_kk (z : Bs) : putE (ct 63 z) [107] [] = 0 ∧ putM (ct 63 z) [107] [] = ct 63 [] := by
  have hs : putC (ct 63 z) [107] [] = ct 63 [] := by
    unfold ct
    rw [putC_skip (by
      intro p hp
      obtain ⟨j, hj, rfl⟩ := List.mem_map.1 hp
      exact mem_k j)]
    simp [putC, cK]
  have he : putE (ct 63 z) [107] [] = 0 := by
    unfold putE
    rw [if_neg (by simp), if_neg (by simp), if_neg]
    rintro ⟨h, _⟩
    unfold getC at h
    rw [Option.map_eq_none_iff, List.find?_eq_none] at h
    exact h ([107], z) (by simp [ct, cK]) (by simp)
  exact ⟨he, by unfold putM; rw [if_pos he, hs]⟩
def cFull : Ct := ct 63 []
def cLess : Ct := dropC cFull [107]
theorem full_e1 : putE cFull [] [] = 1 ∧ putM cFull [] [] = cFull := by decide +kernel
theorem full_e2 : putE cFull (List.replicate 33 0) [] = 1 ∧ putM cFull (List.replicate 33 0) [] = cFull := by decide +kernel
theorem full_e3 : putE cFull [107] (List.replicate 65536 0) = 4 ∧ putM cFull [107] (List.replicate 65536 0) = cFull := by
  have h : putE cFull [107] (List.replicate 65536 0) = 4 := by
    unfold putE
    rw [if_neg (by simp), if_pos (by rw [List.length_replicate]; omega)]
  exact ⟨h, by unfold putM; rw [h, if_neg (by decide)]⟩
theorem full_d : (getC cFull [107]).isSome = true := by decide +kernel
theorem less_z : putE cLess [122] [] = 0 := by decide +kernel
/-! ### In memory -/
def KL (wb : World) (bd bc h : Nat) (c : Ct) (w : World) : Prop := ∃ D M, M.now = c ∧ Kept wb (Pair2 (DevO bd D) (CelO bd bc 0 h M)) w
section
variable {wb w w' : World} {bd bc h : Nat} {c : Ct}
theorem KL.below (k : KL wb bd bc h c w) (hb : Below w.heap.size w w') : KL wb bd bc h c w' := by
  obtain ⟨D, M, e, hk⟩ := k
  exact ⟨D, M, e, hk.below (Pair2.good (DevO.good _ _) (CelO.good _ _ _ _ _)) hb⟩
theorem KL.b (k : KL wb bd bc h c w) : Below wb.heap.size wb w := by
  obtain ⟨D, M, e, hk⟩ := k
  exact hk.k
theorem KL.put (k : KL wb bd bc h c w) (s t : ByteArray) (hs : s.size ≤ 100000) (ht : t.size ≤ 100000) (e0 : Int) (c' : Ct) (he : putE c s.data.toList t.data.toList = e0) (hc : putM c s.data.toList t.data.toList = c') :
    Calls Try.prog 9 #[.pointer (some ⟨bc, 0, none⟩), .string s, .string t] w fun e w' => e = .returned (.int .i64 e0) ∧ Box (KL wb bd bc h c' w') := by
  obtain ⟨D, M, rfl, hk⟩ := k
  have hP := hk.step ((put_does bd bc 0 h M s t (by unfold maxLen; omega) (by unfold maxLen; omega)).in_.ret' (DevO.good _ _))
  rw [he, hc] at hP
  exact hP.mono fun e w' ⟨he, hk⟩ => ⟨he, ⟨D, _, rfl, hk.out⟩⟩
theorem KL.drop (k : KL wb bd bc h c w) (s : ByteArray) (hs : s.size ≤ 100000) (c' : Ct) (he : (getC c s.data.toList).isSome = true) (hc : dropC c s.data.toList = c') :
    Calls Try.prog 15 #[.pointer (some ⟨bc, 0, none⟩), .string s] w fun e w' => e = .returned (.bool true) ∧ Box (KL wb bd bc h c' w') := by
  obtain ⟨D, M, rfl, hk⟩ := k
  have hP := hk.step ((drop_does bd bc 0 h M s (by unfold maxLen; omega)).in_.ret' (DevO.good _ _))
  rw [he, hc] at hP
  exact hP.mono fun e w' ⟨he, hk⟩ => ⟨he, ⟨D, _, rfl, hk.out⟩⟩
theorem KL.names (k : KL wb bd bc h c w) (n : Nat) (hn : c.length = n) :
    Calls Try.prog 14 #[.pointer (some ⟨bc, 0, none⟩)] w fun e w' => ∃ a q, e = .returned (.slice a n q) ∧ Box (KL wb bd bc h c w') := by
  obtain ⟨D, M, rfl, hk⟩ := k
  subst hn
  refine (hk.stepQ ((names_does bd bc 0 h M).in_.beside (DevO.good bd D) |>.conv (fun _ _ h => h.swap) fun _ _ _ h => h)).mono fun e w' hb => ?_
  obtain ⟨F, ⟨F1, F2, ⟨⟨a, q, he⟩, h1⟩, h2, r⟩, h3⟩ := hb.out
  exact ⟨a, q, he, ⟨D, M, rfl, F, Pair2.swap ⟨F1, F2, h1, h2, r⟩, h3⟩⟩
theorem limits_commit (z : Bs) (h2 : 2 ≤ h) (h10 : h ≤ 10) (hz : z.length ≤ 600) (e0 : Int) (he : e0 = if 64 * (h - 1) < 7 + z.length then 4 else 0)
    (hk : Kept wb (Pair2 (DevO bd (Dev.new (2 * h))) (CelO bd bc 0 h { M0 with now := cK z })) w) :
    Calls Try.prog 10 #[.pointer (some ⟨bc, 0, none⟩)] w fun e w' => e = .returned (.int .i64 e0) ∧ Box (KL wb bd bc h (cK z) w') := by
  have hC := hk.step (commit_does bd bc 0 h (Dev.new (2 * h)) { M0 with now := cK z } (Nat.zero_le _) (Nat.zero_le _) (Nat.zero_le _) (show 0 < 1000000 by decide)).in_
  have s := (Sound.new (2 * h) 0 h (by omega) h2 (by omega)).now (cK_ok z (by omega))
  by_cases hl : 64 * (h - 1) < 7 + z.length
  · have hg := Sound.long (base := 0) (half := h) (D := Dev.new (2 * h)) (M := { M0 with now := cK z }) rfl (by rw [bytesC_k z (by omega)]; exact hl)
    rw [hg.1] at hC
    rw [he, if_pos hl]
    refine hC.mono fun e w' ⟨he, hk⟩ => ⟨he, ⟨_, _, ?_, hk.out⟩⟩
    rw [hg.2.2]
  · have hg := s.goes rfl (show 0 < 1000000 by decide) (by rw [bytesC_k z (by omega)]; omega)
    rw [hg.e] at hC
    rw [he, if_neg hl]
    refine hC.mono fun e w' ⟨he, hk⟩ => ⟨he, ⟨_, _, ?_, hk.out⟩⟩
    rw [hg.c]
end
end Go.Proofs.Ytajjihhjkpgkiaa
