/- TilesOlder: out of a longer list's tiles come the shorter one's root and proofs. -/
import Derived.Test.YtlkopllpadhnlaaDoorMUe
import Derived.Test.YtlkopllpadhnlaaDoorTrX
namespace Go.Proofs.YtlkopllpadhnlaaDoor
open Go Go.RowKit

theorem fit_place' : ∀ (n : Nat) (l : List ByteArray) (m : Nat) (whole : Bool), l.length = n → Fit l → Fit (partL m l whole) := by
  intro n
  induction n using Nat.strongRecOn with
  | ind n ih =>
    intro l m whole hl hF
    by_cases hm : m = l.length
    · rw [partL_all m l whole hm]
      intro x hx
      cases whole with
      | true => rw [if_pos rfl] at hx; cases hx
      | false => rw [if_neg (by simp)] at hx; rw [List.mem_singleton.1 hx]; exact root_size l hF
    · by_cases h2 : 2 ≤ l.length
      · have hk := cutN_lt h2
        have hk0 := cutN_pos l.length
        obtain ⟨h3, h4⟩ := fit_node hF (cutN l.length)
        intro x hx
        by_cases hi : m ≤ cutN l.length
        · rw [partL_left m l whole h2 hm hi] at hx
          rcases List.mem_append.1 hx with h | h
          · exact ih (cutN l.length) (by omega) _ m whole (by simp; omega) (hF.take _) x h
          · rw [List.mem_singleton.1 h]; exact h4
        · rw [partL_right m l whole h2 hm (by omega)] at hx
          rcases List.mem_append.1 hx with h | h
          · exact ih (l.length - cutN l.length) (by omega) _ _ false (by simp) (hF.drop _) x h
          · rw [List.mem_singleton.1 h]; exact h3
      · rw [partL, if_neg hm, dif_pos (by omega)]
        intro x hx; cases hx
theorem fit_con' {l : List ByteArray} (h : Fit l) (z : Int) : Fit (conL l z) := by
  unfold conL
  split
  · exact fit_place' _ l _ true rfl h
  · intro x hx; cases hx
/-- A law's files: a list of leaves, nothing amiss. -/
theorem gs_new {w0 w1 : World} {a : Option Addr} {n c : Nat} {l : List ByteArray} (hL : Ld w0.heap.size w0) (hT : TxR w0.heap.size w1 (.slice a n c) l) (hn : l.length = n) (hb : Below w0.heap.size w0 w1) (gone long : ByteArray) :
    GS w0 a n c l gone long w1.heap.size [] [] (w1.alloc (.cells #[.slice a n c, .string gone, .string long, .slice none 0 0] 46)) := by
  obtain ⟨F, h1, _⟩ := fl_new gone long hT hn hb.size
  have hal := mono_bel hb (bel_alloc w1 (.cells #[.slice a n c, .string gone, .string long, .slice none 0 0] 46)) (Nat.le_refl _)
  exact ⟨⟨F, h1, fun r hr => (by cases hr)⟩, fun r hr => (by cases hr), hL.below hal, hal⟩
theorem GS.re {w0 w1 w : World} {a : Option Addr} {n c : Nat} {l : List ByteArray} {gone long : ByteArray} {g : Nat} {rs : List (Value × List ByteArray)} {A : List Tl} (h : GS w1 a n c l gone long g rs A w) (hb : Below w0.heap.size w0 w1) : Below w0.heap.size w0 w := mono_bel hb h.bel (Nat.le_refl _)
set_option maxHeartbeats 6400000 in
set_option maxRecDepth 100000 in
theorem law_older (n0 n1 : Nat) (W : World) (hL : Ld W.heap.size W) (h0 : n0 < 256) (h1 : n1 < 256) :
    Calls Tryd.prog 6 #[.int .u8 (n0 : Int), .int .u8 (n1 : Int)] W fun e W' => e = .returned (.bool true) ∧ Below W.heap.size W W' := by
  have hR := reads_any W.heap.size W hL (Nat.le_refl _)
  obtain ⟨k, hk⟩ : ∃ k, n0 % 60 = k := ⟨_, rfl⟩
  obtain ⟨q, hq⟩ : ∃ q, n1 % 40 = q := ⟨_, rfl⟩
  have hk1 : (n0 : Int) % 60 = (k : Int) := by omega
  have hq1 : (n1 : Int) % 40 = (q : Int) := by omega
  have hkl : k < 60 := by omega
  have hql : q < 40 := by omega
  have hkq : (k : Int) + (q : Int) = ((k + q : Nat) : Int) := by omega
  have hLv := Box.mk (fun w => leavesT_any (k + q) w (by omega))
  unfold LeavesT at hLv
  obtain ⟨N, hN⟩ : ∃ N, k + q = N := ⟨_, rfl⟩
  rw [hN] at hLv hkq
  have hkN : k ≤ N := by omega
  have hN100 : N ≤ 100 := by omega
  replace hL := Box.mk hL
  clear hk hq hN
  go_enter Tryd.func6, Tryd.ntmps6
  go_wp2_with fail
  refine hR.mono ?_
  clear hR
  rintro e w1 ⟨rfl, hb1⟩
  have hL1 := hL.out.here hb1 (Nat.le_refl _)
  replace hb1 := Box.mk hb1
  go_wp2_with fail
  refine (hLv.out w1).mono ?_
  clear hLv
  rintro e w2 ⟨v, l, rfl, hll, h32, hT, hb2⟩
  obtain ⟨a, c, rfl⟩ := hT.shape
  rw [hll] at hT ⊢
  have h32' : All32 l := h32
  have hS0 := gs_new (hL1.up hb1.out.size) hT hll hb2 ByteArray.empty ByteArray.empty
  obtain ⟨W1, hW1⟩ : ∃ W1, w2.alloc (.cells #[.slice a N c, .string ByteArray.empty, .string ByteArray.empty, .slice none 0 0] 46) = W1 := ⟨_, rfl⟩
  obtain ⟨g, hg⟩ : ∃ g, w2.heap.size = g := ⟨_, rfl⟩
  rw [hW1, hg] at hS0
  have hR1 := groot k W1 hS0 h32' (by omega) hll hkN (by simp)
  unfold flV at hR1
  replace hW1 := Box.mk hW1
  replace hg := Box.mk hg
  replace h32 := Box.mk h32'
  replace hll := Box.mk hll
  have hcap := (hT.pa hll.out).cap
  have htop := (hT.pa hll.out).top
  clear hT hL1 hb2 h32' hS0
  go_wp2_with fail
  rw [show w2.alloc (.cells #[.slice a N c, .string ⟨#[]⟩, .string ⟨#[]⟩, .slice none 0 0] 46) = W1 from hW1.out, hg.out]
  refine hR1.mono ?_
  clear hR1 hW1 hg
  rintro e w3 ⟨A1, rfl, hS1, hA1, hA1l⟩
  have hrr := rroot_any k (l.take k) a c w3 (hS1.pa.take hkN) (h32.out.fit.take k)
  have hRN := fun w' (hb : Below w3.heap.size w3 w') => groot N w' (hS1.here hb) h32.out (by omega) hll.out (Nat.le_refl _) (by simp; omega)
  have hold := root_size _ (h32.out.fit.take k)
  obtain ⟨r1, hr1⟩ : ∃ r, rootL (l.take k) = r := ⟨_, rfl⟩
  rw [hr1] at hrr hold ⊢
  unfold flV at hRN
  have hl1 := Box.mk hS1
  replace hRN := Box.mk hRN
  replace hA1l := Box.mk hA1l
  have hrq : (r1.toList == r1.toList) = true := by simp
  clear hS1 hA1
  go_wp2_with fail
  refine hrr.mono ?_
  clear hrr
  rintro e w4 ⟨rfl, hb4⟩
  have hR2 := hRN.out w4 hb4
  replace hb4 := Box.mk hb4
  clear hRN
  go_wp2_with fail
  refine hR2.mono ?_
  clear hR2
  rintro e w5 ⟨A2, rfl, hS2, hA2, hA2l⟩
  rw [List.take_of_length_le (by rw [hll.out]; exact Nat.le_refl _)]
  have hC := gcon N k w5 hS2 h32.out (by omega) hll.out (Nat.le_refl _) (by simp; have := hA1l.out; omega)
  rw [List.take_of_length_le (by rw [hll.out]; exact Nat.le_refl _)] at hC
  obtain ⟨o1, o2, _, _⟩ := con_own l k N hll.out hkN
  rw [hr1] at o2
  rw [o1] at hC
  have hPs : Fit (conL l k) := fit_con' h32.out.fit k
  obtain ⟨r2, hr2⟩ : ∃ r, rootL l = r := ⟨_, rfl⟩
  rw [hr2] at o2 ⊢
  unfold flV at hC
  replace o2 := Box.mk o2
  replace hPs := Box.mk hPs
  clear hS2 hA2 hl1 hb4 hr1 hr2 o1
  go_wp2_with fail
  refine hC.mono ?_
  clear hC
  rintro e w6 ⟨A3, v3, rfl, hS3, _, _⟩
  have hT3 : TxR w1.heap.size w6 v3 (conL l k) := hS3.rows (v3, conL l k) (by simp)
  obtain ⟨a3, c3, rfl⟩ := hT3.shape
  have hCs := rconsistent_any k N r1 r2 (conL l k) (conL l k).length a3 c3 w6 (hT3.pa rfl) hPs.out hold (by omega)
  rw [o2.out] at hCs
  replace hS3 := Box.mk hS3
  obtain ⟨m3, hm3⟩ : ∃ m, (conL l k).length = m := ⟨_, rfl⟩
  simp only [hm3] at hCs ⊢
  clear hT3 o2 hPs hm3
  go_wp2_with fail
  refine hCs.mono ?_
  clear hCs
  rintro e w7 ⟨rfl, hb7⟩
  have hbf := Box.mk (mono_bel hb1.out ((hS3.out.here hb7).bel) (Nat.le_refl _))
  clear hb7 hS3
  go_wp2_with fail
  go_ret
  exact ⟨rfl, hbf.out⟩
end Go.Proofs.YtlkopllpadhnlaaDoor
