/- Walk of the law TreeConsistent. -/
import Derived.Test.YtdomennhoopggaaDoorTrX
namespace Go.Proofs.YtdomennhoopggaaDoor
open Go Go.RowKit

theorem fit32 {l : List ByteArray} (h : ∀ x ∈ l, x.size = 32) : Fit l := fun x hx => by rw [h x hx]; omega
theorem root32 (l : List ByteArray) (h : ∀ x ∈ l, x.size = 32) : (rootL l).size ≤ 70000000000000 := root_size l (fit32 h)
theorem fit_place : ∀ (n : Nat) (l : List ByteArray) (i : Nat), l.length = n → Fit l → Fit (placeL l i) := by
  intro n
  induction n using Nat.strongRecOn with
  | ind n ih =>
    intro l i hl hF
    by_cases h2 : 2 ≤ l.length
    · have hk := cutN_lt h2
      have hk0 := cutN_pos l.length
      obtain ⟨h3, h4⟩ := fit_node hF (cutN l.length)
      intro x hx
      by_cases hi : i < cutN l.length
      · rw [placeL_left l h2 i hi] at hx
        rcases List.mem_append.1 hx with h | h
        · exact ih (cutN l.length) (by omega) _ i (by simp; omega) (hF.take _) x h
        · rw [List.mem_singleton.1 h]; exact h4
      · rw [placeL_right l h2 i (by omega)] at hx
        rcases List.mem_append.1 hx with h | h
        · exact ih (l.length - cutN l.length) (by omega) _ _ (by simp) (hF.drop _) x h
        · rw [List.mem_singleton.1 h]; exact h3
    · rw [placeL_one l (by omega)]
      intro x hx; cases hx
theorem fit_part : ∀ (n : Nat) (l : List ByteArray) (m : Nat) (whole : Bool), l.length = n → Fit l → Fit (partL m l whole) := by
  intro n
  induction n using Nat.strongRecOn with
  | ind n ih =>
    intro l m whole hl hF
    by_cases hm : m = l.length
    · rw [partL_all m l whole hm]
      intro x hx
      cases whole with
      | true => rw [if_pos rfl] at hx; cases hx
      | false => rw [if_neg (by simp)] at hx; rw [List.mem_singleton.1 hx]; exact root_size l hF
    · by_cases h2 : 2 ≤ l.length
      · have hk := cutN_lt h2
        have hk0 := cutN_pos l.length
        obtain ⟨h3, h4⟩ := fit_node hF (cutN l.length)
        intro x hx
        by_cases hi : m ≤ cutN l.length
        · rw [partL_left m l whole h2 hm hi] at hx
          rcases List.mem_append.1 hx with h | h
          · exact ih (cutN l.length) (by omega) _ m whole (by simp; omega) (hF.take _) x h
          · rw [List.mem_singleton.1 h]; exact h4
        · rw [partL_right m l whole h2 hm (by omega)] at hx
          rcases List.mem_append.1 hx with h | h
          · exact ih (l.length - cutN l.length) (by omega) _ _ false (by simp) (hF.drop _) x h
          · rw [List.mem_singleton.1 h]; exact h3
      · rw [partL, if_neg hm, dif_pos (by omega)]
        intro x hx; cases hx
theorem fit_con {l : List ByteArray} (h : Fit l) (z : Int) : Fit (conL l z) := by
  unfold conL
  split
  · exact fit_part _ l _ true rfl h
  · intro x hx; cases hx
theorem fit_inc {l : List ByteArray} (h : Fit l) (z : Int) : Fit (incL l z) := by
  unfold incL
  split
  · exact fit_place _ l _ rfl h
  · intro x hx; cases hx
theorem Fit.snoc {l : List ByteArray} (h : Fit l) {x : ByteArray} (hx : x.size ≤ 70000000000000) : Fit (l ++ [x]) := fun y hy => by
  rcases List.mem_append.1 hy with h1 | h1
  · exact h y h1
  · rw [List.mem_singleton.1 h1]; exact hx
theorem conL_64 {l : List ByteArray} (z : Int) (hl : l.length ≤ 9223372036854775807) : (conL l z).length ≤ 64 := by
  unfold conL
  split
  · exact partL_64 hl _ _
  · exact Nat.zero_le _
theorem incL_63 {l : List ByteArray} (z : Int) (hl : l.length ≤ 9223372036854775807) : (incL l z).length ≤ 63 := by
  unfold incL
  split
  · exact placeL_63 hl _
  · exact Nat.zero_le _
set_option maxHeartbeats 6400000 in
set_option maxRecDepth 100000 in
theorem law_consistent (k : Nat) (s : ByteArray) (w : World) (hK : KIs w) (hk : k ≤ 255) (hs : s.size ≤ 140737488353000) :
    Calls Tryd.prog 7 #[.int .u8 (k : Int), .string s] w fun e w' => e = .returned (.bool true) ∧ Below w.heap.size w w' := by
  have hH := hashes_any w hK
  have hmod : (k : Int).tmod 40 = ((k % 40 : Nat) : Int) := by rw [Int.tmod_eq_emod_of_nonneg (by omega)]; omega
  obtain ⟨n, hn⟩ : ∃ n, k % 40 = n := ⟨_, rfl⟩
  have hn40 : n ≤ 39 := by omega
  rw [hn] at hmod
  have hLv := fun w' => leaves_any n s w' (by omega) hs
  replace hK := Box.mk hK
  clear hn
  go_enter Tryd.func7, Tryd.ntmps7
  go_wp2_with fail
  refine hH.mono ?_
  rintro e w1 ⟨rfl, hb1⟩
  clear hH
  replace hLv := hLv w1
  replace hb1 := Box.mk hb1
  go_wp2_with fail
  refine hLv.mono ?_
  rintro e w2 ⟨v2, l, rfl, hl, hsz, hT2, hb2⟩
  clear hLv
  have hF := Box.mk (fit32 hsz)
  obtain ⟨a, c, rfl⟩ := hT2.shape
  have hP := Box.mk (hT2.pa rfl)
  replace hb2 := Box.mk (mono_bel hb1.out hb2 (Nat.le_refl _))
  clear hT2 hsz hb1
  rw [hl] at hP ⊢
  have h1 := root_any n l a c w2 hP.out (hK.out.below hb2.out hK.out.lt) hF.out
  have hrs := Box.mk (root_size l hF.out)
  have hown := fun m (hm : m ≤ n) => con_own l m n hl hm
  have hlen := fun z : Int => conL_64 (l := l) z (by omega)
  have hfit := fun z : Int => fit_con hF.out z
  have hrm := fun m : Nat => root_size (l.take m) (hF.out.take m)
  obtain ⟨R, hR⟩ : ∃ R, rootL l = R := ⟨_, rfl⟩
  rw [hR] at h1 hrs hown
  go_wp2_with fail
  refine h1.mono ?_
  rintro e w3 ⟨rfl, hb3⟩
  clear h1
  replace hP := Box.mk (hP.out.here hb3)
  replace hb2 := Box.mk (mono_bel hb2.out hb3 (Nat.le_refl _))
  replace hown := Box.mk hown
  replace hlen := Box.mk hlen
  replace hfit := Box.mk hfit
  replace hrm := Box.mk hrm
  replace hl := Box.mk hl
  clear hb3 hR
  have hcap := hP.out.cap
  have htop := hP.out.top
  go_wp2_with fail
  go_loopw [7, 8, 9, 10] (fun v7 _ _ _ wr => ∃ m : Nat, m ≤ n + 1 ∧ v7 = .int .i64 (m : Int) ∧ Box (PA wr a n c l) ∧ Box (Below w.heap.size w wr)) (fun v7 _ _ _ _ => n + 1 - (intOf v7).toNat)
  case atStart => exact ⟨0, by omega, rfl, hP, hb2⟩
  case round =>
    clear hP hb2
    obtain ⟨m, hm, rfl, hP, hb2⟩ := hrel
    by_cases hlt : m ≤ n
    · have hmn : (m : Int) ≤ (n : Int) := by omega
      obtain ⟨o1, o2, o3, o4⟩ := hown.out m hlt
      have h1 := consistency_any n l m a c wr hP.out (hK.out.below hb2.out hK.out.lt) hF.out
      have h2 := fun w' (hb : Below wr.heap.size wr w') => root_any m (l.take m) a c w' ((hP.out.here hb).take hlt) (hK.out.below (mono_bel hb2.out hb (Nat.le_refl _)) hK.out.lt) (hF.out.take m)
      have hcl := hlen.out (m : Int)
      have hcf := hfit.out (m : Int)
      have hos := hrm.out m
      obtain ⟨O, hO⟩ : ∃ O, rootL (l.take m) = O := ⟨_, rfl⟩
      obtain ⟨C, hC⟩ : ∃ C, conL l m = C := ⟨_, rfl⟩
      rw [hC, o1] at h1
      rw [hO] at h2 o2 o3 o4 hos
      rw [hC] at o2 o3 o4 hcl hcf
      clear o1
      have hKw := fun w' (hb : Below wr.heap.size wr w') => hK.out.below (mono_bel hb2.out hb (Nat.le_refl _)) hK.out.lt
      unfold RowsE at h1
      go_wp2_with fail
      refine h1.mono ?_
      rintro e w4 ⟨v4, rfl, hT4, hb4⟩
      clear h1
      obtain ⟨a4, c4, rfl⟩ := hT4.shape
      obtain ⟨p, hp⟩ : ∃ p, C.length = p := ⟨_, rfl⟩
      rw [hp] at hT4 hcl ⊢
      replace h2 := h2 w4 hb4
      replace hT4 := Box.mk hT4
      replace hb4 := Box.mk hb4
      go_wp2_with fail
      refine h2.mono ?_
      rintro e w5 ⟨rfl, hb5⟩
      clear h2
      replace hT4 := Box.mk (hT4.out.here hb5)
      replace hb4 := Box.mk (mono_bel hb4.out hb5 (Nat.le_refl _))
      clear hb5
      have h1 := consistent_any m n O R C p a4 c4 w5 (hT4.out.pa hp) (hKw w5 hb4.out) hcf hos (by omega)
      rw [o2] at h1
      clear o2
      go_wp2_with fail
      refine h1.mono ?_
      rintro e w6 ⟨rfl, hb5⟩
      clear h1
      replace hT4 := Box.mk (hT4.out.here hb5)
      replace hb4 := Box.mk (mono_bel hb4.out hb5 (Nat.le_refl _))
      clear hb5
      replace o3 := Box.mk o3
      replace o4 := Box.mk o4
      replace hcf := Box.mk hcf
      replace hp := Box.mk hp
      go_wp2_with (at_builtin; refine wpList_pushG rfl (.tmp 52) (.tmp 54) rfl wr.heap.size _ C R rfl (hT4.out.here (bel_alloc _ _)) (by have := hb4.out.size; simp; omega) w6.heap.size 0 1 rfl (parts_new w6 [R] 9) (by rw [hp.out]; omega) ?_)
      rintro v7 w7 hp7 hT7
      have hb7 := Box.mk (hp7.bel (mono_bel hb4.out (bel_alloc _ _) (Nat.le_refl _)) (hT4.out.here (bel_alloc _ _)))
      have hl7 : (C ++ [R]).length = p + 1 := by rw [List.length_append, hp.out]; rfl
      have hP7 := hp7.row
      obtain ⟨a7, c7, rfl⟩ := hP7.shape
      have h1 := consistent_any m n O R (C ++ [R]) (p + 1) a7 c7 w7 (by rw [← hl7]; exact hP7.pa rfl) (hKw w7 hb7.out) (hcf.out.snoc hrs.out) hos (by omega)
      rw [o3.out R] at h1
      rw [hl7]
      replace hT7 := Box.mk hT7
      clear hp7 hP7 hb4 hT4 o3 hl7
      go_wp2_with fail
      refine h1.mono ?_
      rintro e w8 ⟨rfl, hb5⟩
      clear h1
      replace hT7 := Box.mk (hT7.out.here hb5)
      replace hb7 := Box.mk (mono_bel hb7.out hb5 (Nat.le_refl _))
      clear hb5
      have hP8 : Box (PA w8 a n c l) := ⟨hP.out.here hb7.out⟩
      have hb8 : Box (Below w.heap.size w w8) := ⟨mono_bel hb2.out hb7.out (Nat.le_refl _)⟩
      rcases Nat.eq_zero_or_pos p with h0 | h0
      · subst h0
        clear o4 hT7 hb7 hP hb2 hKw
        go_wp2_with fail
        exact ⟨⟨m + 1, by omega, by go_num, hP8, hb8⟩, by simp [intOf]; omega⟩
      · have hgt : (p : Int) > 0 := by omega
        have hpc := (hT7.out.pa hp.out).cap
        have hpt := (hT7.out.pa hp.out).top
        have h1 := consistent_any m n O R (C.take (p - 1)) (p - 1) a4 c4 w8 ((hT7.out.pa hp.out).take (by omega)) (hKw w8 hb7.out) (hcf.out.take _) hos (by omega)
        have o5 := o4.out (by rw [hp.out]; exact h0)
        rw [hp.out] at o5
        rw [o5] at h1
        clear o4 o5 hT7 hb7 hP hb2 hKw
        go_wp2_with fail
        refine h1.mono ?_
        rintro e w9 ⟨rfl, hb5⟩
        clear h1
        replace hP8 := Box.mk (hP8.out.here hb5)
        replace hb8 := Box.mk (mono_bel hb8.out hb5 (Nat.le_refl _))
        clear hb5
        go_wp2_with fail
        exact ⟨⟨m + 1, by omega, by go_num, hP8, hb8⟩, by simp [intOf]; omega⟩
    · have hmn : ¬ (m : Int) ≤ (n : Int) := by omega
      go_wp2_with fail
      go_ret
      exact ⟨rfl, hb2.out⟩
end Go.Proofs.YtdomennhoopggaaDoor
