/- Walk of the document's both. | Walk of the document's Consistent. | Walk of the example of law 8 (hashes). | Walks of leaves of law 8, SameTexts. | Walk of the document's SameTexts. -/
import Derived.Test.YtdomennhoopggaaDoorMTd
namespace Go.Proofs.YtdomennhoopggaaDoor
open Go Go.RowKit

/-- What the document's both answers. -/
def Bothed (w : World) (m n : Nat) (whole : Bool) (old : ByteArray) (ps : List ByteArray) (e : Ending) (w' : World) : Prop :=
  ∃ x y a p c b, e = .returned (.tuple #[.string x, .string y, .slice a p c, .bool b]) ∧ b = decide (wants m n whole ≤ ps.length) ∧ (b = true → (x, y) = outOf m n whole old (ps.take (wants m n whole))) ∧ PA w' a p c (if b then ps.drop (wants m n whole) else []) ∧
    x.size ≤ 70000000000000 ∧ y.size ≤ 70000000000000 ∧ Below w.heap.size w w'
theorem take_more (ps : List ByteArray) (W : Nat) (h : W < ps.length) : ps.take (W + 1) = ps.take W ++ [(ps.drop W).getD 0 ByteArray.empty] := by
  rw [List.take_succ_eq_append_getElem h]
  congr 1
  simp [List.getD, h]
theorem both_left {m n k : Nat} {whole : Bool} {old x y z : ByteArray} {ps : List ByteArray} (hk : cutN n = k) (hn : 2 ≤ n) (hm : m ≠ n) (hmk : m ≤ k) (hl : wants m k whole < ps.length) (hz : (ps.drop (wants m k whole)).getD 0 ByteArray.empty = z)
    (hg : (x, y) = outOf m k whole old (ps.take (wants m k whole))) : (x, nodeH y z) = outOf m n whole old (ps.take (wants m n whole)) := by
  subst hk
  rw [wants_left m n whole hn hm hmk, take_more ps _ hl, outOf_left m n whole old _ _ hn hm hmk (by simp; omega), ← hg, hz]
theorem both_right {m n k : Nat} {whole : Bool} {old x y z : ByteArray} {ps : List ByteArray} (hk : cutN n = k) (hn : 2 ≤ n) (hm : m ≠ n) (hmk : k < m) (hl : wants (m - k) (n - k) false < ps.length) (hz : (ps.drop (wants (m - k) (n - k) false)).getD 0 ByteArray.empty = z)
    (hg : (x, y) = outOf (m - k) (n - k) false old (ps.take (wants (m - k) (n - k) false))) : (nodeH z x, nodeH z y) = outOf m n whole old (ps.take (wants m n whole)) := by
  subst hk
  rw [wants_right m n whole hn hm hmk, take_more ps _ hl, outOf_right m n whole old _ _ hn hm hmk (by simp; omega), ← hg, hz]
set_option maxHeartbeats 6400000 in
set_option maxRecDepth 100000 in
theorem both_any (old : ByteArray) (hold : old.size ≤ 70000000000000) : ∀ (n : Nat) (ps : List ByteArray) (m p : Nat) (whole : Bool) (a : Option Addr) (c : Nat) (w : World), PA w a p c ps → Fit ps → 0 < m → m ≤ n → n ≤ 9223372036854775807 →
    Calls Tryd.prog 37 #[.int .i64 (m : Int), .int .i64 (n : Int), .bool whole, .string old, .slice a p c] w (Bothed w m n whole old ps) := by
  intro n
  induction n using Nat.strongRecOn with
  | ind n ih =>
    intro ps m p whole a c w hP hF hm0 hm hn63
    have hlen := hP.len
    by_cases hmn : m = n
    · subst hmn
      cases whole with
      | true =>
        have hfin : Box (true = decide (wants m m true ≤ ps.length)) := ⟨by rw [wants_all, if_pos rfl]; simp⟩
        have hout : Box ((old, old) = outOf m m true old (ps.take (wants m m true))) := ⟨by rw [outOf_all, if_pos rfl]⟩
        have hw0 : Box (ps.drop (wants m m true) = ps) := ⟨by rw [wants_all, if_pos rfl]; rfl⟩
        replace hP := Box.mk hP
        clear ih hF hlen hm hm0
        go_enter Tryd.func37, Tryd.ntmps37
        go_wp2_with fail
        go_returns
        exact ⟨_, _, _, _, _, _, rfl, hfin.out, fun _ => hout.out, by rw [if_pos rfl, hw0.out]; exact hP.out, hold, hold, Below.refl _ _⟩
      | false =>
        rcases Nat.eq_zero_or_pos p with h0 | h0
        · subst h0
          have hfalse : Box (false = decide (wants m m false ≤ ps.length)) := ⟨by rw [wants_all, if_neg (by simp), hlen]; simp⟩
          clear ih hP hF hlen hm hm0
          go_enter Tryd.func37, Tryd.ntmps37
          go_wp2_with fail
          go_returns
          exact ⟨_, _, _, _, _, _, rfl, hfalse.out, (fun h => by cases h), pa_nil _, by decide, by decide, Below.refl _ _⟩
        · skip
          have hcap := hP.cap
          have htop := hP.top
          have htrue : Box (true = decide (wants m m false ≤ ps.length)) := ⟨by rw [wants_all, if_neg (by simp)]; simp; omega⟩
          obtain ⟨blk, off, rfl, hlt, hcell⟩ := hP.cell 0 h0
          rw [Nat.add_zero] at hcell
          have hxs := hF.getD 0
          have hout0 : outOf m m false old (ps.take 1) = (ps.getD 0 ByteArray.empty, ps.getD 0 ByteArray.empty) := by
            rw [outOf_all, if_neg (by simp)]
            simp [List.getD]
          obtain ⟨x, hx⟩ : ∃ x, ps.getD 0 ByteArray.empty = x := ⟨_, rfl⟩
          rw [hx] at hcell hxs hout0
          have hout : Box ((x, x) = outOf m m false old (ps.take (wants m m false))) := ⟨by rw [wants_all, if_neg (by simp), hout0]⟩
          have hc2 : ∀ w', Below w.heap.size w w' → w'.cell? ⟨blk, off, none⟩ = some (.string x) := fun w' hb => (hb.cell (p := ⟨blk, off, none⟩) hlt).trans hcell
          replace hc2 := Box.mk hc2
          have hPd : ∀ w', Below w.heap.size w w' → PA w' (some ⟨blk, off + 1, none⟩) (p - 1) (c - 1) (ps.drop (wants m m false)) := fun w' hb => by
            rw [wants_all, if_neg (by simp)]
            exact (hP.here hb).drop (k := 1) (by omega)
          replace hPd := Box.mk hPd
          have hp0 : ((p : Int) == 0) = false := by simp; omega
          clear ih hF hP hm hm0 hx hcell hout0 hlen
          by_cases hc1 : c = 1
          · subst hc1
            obtain rfl : p = 1 := by omega
            have hP0 : Box (ps.drop (wants m m false) = []) := ⟨List.length_eq_zero_iff.1 ((hPd.out w (Below.refl _ _)).len)⟩
            go_enter Tryd.func37, Tryd.ntmps37
            go_wp2_with fail
            refine region_quiet (fun w' => Below w.heap.size w w') (by kernel_rfl) (by kernel_rfl) (dB _) ?_
            repeat (go_big_quiet_step (first | exact fun _ => rfl | rfl))
            refine quiet_val rfl (.string x) (fun w' hw' => by have h3 := hc2.out w' hw'; go_simp) ?_
            simp only [Act.put, List.setIfInBounds_toArray, List.set_cons_succ, List.set_cons_zero]
            repeat (go_big_quiet_step (first | exact fun _ => rfl | rfl))
            refine quiet_val rfl (.string x) (fun w' hw' => by have h3 := hc2.out w' hw'; go_simp) ?_
            simp only [Act.put, List.setIfInBounds_toArray, List.set_cons_succ, List.set_cons_zero]
            repeat (go_big_quiet_step (first | exact fun _ => rfl | rfl))
            refine wpQuiet_nil ?_
            intro w7 hw7
            go_wp2_with fail
            go_returns
            exact ⟨_, _, _, _, _, _, rfl, htrue.out, fun _ => hout.out, by rw [if_pos rfl, hP0.out]; exact pa_none _ _, hxs, hxs, hw7⟩
          · skip
            go_enter Tryd.func37, Tryd.ntmps37
            go_wp2_with fail
            refine region_quiet (fun w' => Below w.heap.size w w') (by kernel_rfl) (by kernel_rfl) (dB _) ?_
            repeat (go_big_quiet_step (first | exact fun _ => rfl | rfl))
            refine quiet_val rfl (.string x) (fun w' hw' => by have h3 := hc2.out w' hw'; go_simp) ?_
            simp only [Act.put, List.setIfInBounds_toArray, List.set_cons_succ, List.set_cons_zero]
            repeat (go_big_quiet_step (first | exact fun _ => rfl | rfl))
            refine quiet_val rfl (.string x) (fun w' hw' => by have h3 := hc2.out w' hw'; go_simp) ?_
            simp only [Act.put, List.setIfInBounds_toArray, List.set_cons_succ, List.set_cons_zero]
            repeat (go_big_quiet_step (first | exact fun _ => rfl | rfl))
            refine wpQuiet_nil ?_
            intro w7 hw7
            go_wp2_with fail
            go_returns
            exact ⟨_, _, _, _, _, _, rfl, htrue.out, fun _ => hout.out, by rw [if_pos rfl]; exact hPd.out w7 hw7, hxs, hxs, hw7⟩
    · have hn : 2 ≤ n := by omega
      have hmn2 : ((m : Int) == (n : Int)) = false := by simp; omega
      have hk := cutN_lt hn
      have hk0 := cutN_pos n
      have hC := power_any n w hn hn63
      have hL := fun (hik : m ≤ cutN n) w' (hb : Below w.heap.size w w') => ih (cutN n) hk ps m p whole a c w' (hP.here hb) hF hm0 hik (by omega)
      have hR := fun (hik : cutN n < m) w' (hb : Below w.heap.size w w') => ih (n - cutN n) (by omega) ps (m - cutN n) p false a c w' (hP.here hb) hF (by omega) (by omega) (by omega)
      obtain ⟨k, hkk⟩ : ∃ k, cutN n = k := ⟨_, rfl⟩
      rw [hkk] at hk hk0 hC hL hR
      clear ih hP hlen
      replace hF := Box.mk hF
      by_cases hik : m ≤ k
      · have hik2 : (m : Int) ≤ (k : Int) := by omega
        replace hL := hL hik
        have hw : wants m n whole = wants m k whole + 1 := by rw [← hkk] at hik ⊢; exact wants_left m n whole hn hmn hik
        have hstep := fun x y z => both_left (m := m) (n := n) (k := k) (whole := whole) (old := old) (x := x) (y := y) (z := z) (ps := ps) hkk hn hmn hik
        obtain ⟨V, hV⟩ : ∃ V, wants m k whole = V := ⟨_, rfl⟩
        obtain ⟨O, hO⟩ : ∃ O, outOf m k whole old (ps.take V) = O := ⟨_, rfl⟩
        obtain ⟨T, hT⟩ : ∃ T, outOf m n whole old (ps.take (V + 1)) = T := ⟨_, rfl⟩
        unfold Bothed at hL
        rw [hV, hO] at hL
        rw [hw, hV, hO, hT] at hstep
        rw [hV] at hw
        have hgoal : ∀ e w', (∃ x y a p c b, e = Ending.returned (.tuple #[.string x, .string y, .slice a p c, .bool b]) ∧ b = decide (V + 1 ≤ ps.length) ∧ (b = true → (x, y) = T) ∧ PA w' a p c (if b then ps.drop (V + 1) else []) ∧ x.size ≤ 70000000000000 ∧ y.size ≤ 70000000000000 ∧ Below w.heap.size w w') → Bothed w m n whole old ps e w' := fun e w' h => by
          unfold Bothed
          rw [hw, hT]
          exact h
        refine Calls.mono ?_ hgoal
        clear hR hkk hgoal hw hV hO hT
        go_enter Tryd.func37, Tryd.ntmps37
        go_wp2_with fail
        refine hC.mono ?_
        rintro e w3 ⟨rfl, rfl⟩
        clear hC
        replace hL := hL w3 (Below.refl _ _)
        go_wp2_with fail
        refine hL.mono ?_
        rintro e w4 ⟨x, y, a4, m4, c4, b, rfl, hb, hg, hP4, hxs, hys, hB4⟩
        clear hL
        replace hB4 := Box.mk hB4
        cases b with
        | false =>
          have hfalse : Box (false = decide (V + 1 ≤ ps.length)) := ⟨by simp at hb ⊢; omega⟩
          clear hb hg hP4 hxs hys hstep
          go_wp2_with fail
          go_returns
          exact ⟨_, _, _, _, _, _, rfl, hfalse.out, (fun h => by cases h), pa_nil _, by decide, by decide, hB4.out⟩
        | true =>
          rw [if_pos rfl] at hP4
          have hl4 := hP4.len
          rw [List.length_drop] at hl4
          have hle : V ≤ ps.length := by simpa using hb
          rcases Nat.eq_zero_or_pos m4 with h0 | h0
          · subst h0
            have hfalse : Box (false = decide (V + 1 ≤ ps.length)) := ⟨by simp; omega⟩
            clear hb hg hP4 hxs hys hstep hle hl4
            go_wp2_with fail
            go_returns
            exact ⟨_, _, _, _, _, _, rfl, hfalse.out, (fun h => by cases h), pa_nil _, by decide, by decide, hB4.out⟩
          · have hm0' : ((m4 : Int) == 0) = false := by simp; omega
            have htrue : Box (true = decide (V + 1 ≤ ps.length)) := ⟨by simp; omega⟩
            have hcap := hP4.cap
            have htop := hP4.top
            obtain ⟨blk, off, rfl, hlt, hcell⟩ := hP4.cell 0 h0
            rw [Nat.add_zero] at hcell
            have hzs := (hF.out.drop V).getD 0
            obtain ⟨z, hz⟩ : ∃ z, (ps.drop V).getD 0 ByteArray.empty = z := ⟨_, rfl⟩
            have hus := hstep x y z (by omega) hz (hg rfl)
            rw [hz] at hcell hzs
            have hN1 := fun w' => rnode_any y z w' hys hzs
            have hc2 : ∀ w', Below w4.heap.size w4 w' → w'.cell? ⟨blk, off, none⟩ = some (.string z) := fun w' hb => (hb.cell (p := ⟨blk, off, none⟩) hlt).trans hcell
            replace hc2 := Box.mk hc2
            have hPd : ∀ w', Below w4.heap.size w4 w' → PA w' (some ⟨blk, off + 1, none⟩) (m4 - 1) (c4 - 1) (ps.drop (V + 1)) := fun w' hb => by
              have := (hP4.here hb).drop (k := 1) (by omega)
              rw [List.drop_drop] at this
              exact this
            replace hPd := Box.mk hPd
            replace hus := Box.mk hus
            clear hb hg hle hl4 hz hcell hzs hP4 hstep hys
            by_cases hc1 : c4 = 1
            · subst hc1
              obtain rfl : m4 = 1 := by omega
              have hP0 : Box (ps.drop (V + 1) = []) := ⟨List.length_eq_zero_iff.1 ((hPd.out w4 (Below.refl _ _)).len)⟩
              go_wp2_with fail
              refine region_quiet (fun w' => Below w4.heap.size w4 w') (by kernel_rfl) (by kernel_rfl) (dB _) ?_
              repeat (go_big_quiet_step (first | exact fun _ => rfl | rfl))
              refine quiet_val rfl (.string z) (fun w' hw' => by have h3 := hc2.out w' hw'; go_simp) ?_
              simp only [Act.put, List.setIfInBounds_toArray, List.set_cons_succ, List.set_cons_zero]
              repeat (go_big_quiet_step (first | exact fun _ => rfl | rfl))
              refine quiet_call rfl (.string (nodeH y z)) (fun w' hw' => bel_call (hN1 w') hw') (fun w' _ => by go_simp) ?_
              simp only [Act.put, List.setIfInBounds_toArray, List.set_cons_succ, List.set_cons_zero]
              repeat (go_big_quiet_step (first | exact fun _ => rfl | rfl))
              refine wpQuiet_nil ?_
              intro w7 hw7
              clear hc2
              go_wp2_with fail
              go_returns
              exact ⟨_, _, _, _, _, _, rfl, htrue.out, fun _ => hus.out, by rw [if_pos rfl, hP0.out]; exact pa_none _ _, hxs, by rw [nodeH_size]; decide, mono_bel hB4.out hw7 (Nat.le_refl _)⟩
            · skip
              go_wp2_with fail
              refine region_quiet (fun w' => Below w4.heap.size w4 w') (by kernel_rfl) (by kernel_rfl) (dB _) ?_
              repeat (go_big_quiet_step (first | exact fun _ => rfl | rfl))
              refine quiet_val rfl (.string z) (fun w' hw' => by have h3 := hc2.out w' hw'; go_simp) ?_
              simp only [Act.put, List.setIfInBounds_toArray, List.set_cons_succ, List.set_cons_zero]
              repeat (go_big_quiet_step (first | exact fun _ => rfl | rfl))
              refine quiet_call rfl (.string (nodeH y z)) (fun w' hw' => bel_call (hN1 w') hw') (fun w' _ => by go_simp) ?_
              simp only [Act.put, List.setIfInBounds_toArray, List.set_cons_succ, List.set_cons_zero]
              repeat (go_big_quiet_step (first | exact fun _ => rfl | rfl))
              refine wpQuiet_nil ?_
              intro w7 hw7
              clear hc2
              go_wp2_with fail
              go_returns
              exact ⟨_, _, _, _, _, _, rfl, htrue.out, fun _ => hus.out, by rw [if_pos rfl]; exact hPd.out w7 hw7, hxs, by rw [nodeH_size]; decide, mono_bel hB4.out hw7 (Nat.le_refl _)⟩
      · have hik2 : ¬ (m : Int) ≤ (k : Int) := by omega
        have hki : k < m := by omega
        have hsub : (m : Int) - (k : Int) = ((m - k : Nat) : Int) := by omega
        have hsub2 : (n : Int) - (k : Int) = ((n - k : Nat) : Int) := by omega
        replace hR := hR hki
        rw [← hsub, ← hsub2] at hR
        have hw : wants m n whole = wants (m - k) (n - k) false + 1 := by rw [← hkk] at hki ⊢; exact wants_right m n whole hn hmn hki
        have hstep := fun x y z => both_right (m := m) (n := n) (k := k) (whole := whole) (old := old) (x := x) (y := y) (z := z) (ps := ps) hkk hn hmn hki
        obtain ⟨V, hV⟩ : ∃ V, wants (m - k) (n - k) false = V := ⟨_, rfl⟩
        obtain ⟨O, hO⟩ : ∃ O, outOf (m - k) (n - k) false old (ps.take V) = O := ⟨_, rfl⟩
        obtain ⟨T, hT⟩ : ∃ T, outOf m n whole old (ps.take (V + 1)) = T := ⟨_, rfl⟩
        unfold Bothed at hR
        rw [hV, hO] at hR
        rw [hw, hV, hO, hT] at hstep
        rw [hV] at hw
        have hgoal : ∀ e w', (∃ x y a p c b, e = Ending.returned (.tuple #[.string x, .string y, .slice a p c, .bool b]) ∧ b = decide (V + 1 ≤ ps.length) ∧ (b = true → (x, y) = T) ∧ PA w' a p c (if b then ps.drop (V + 1) else []) ∧ x.size ≤ 70000000000000 ∧ y.size ≤ 70000000000000 ∧ Below w.heap.size w w') → Bothed w m n whole old ps e w' := fun e w' h => by
          unfold Bothed
          rw [hw, hT]
          exact h
        refine Calls.mono ?_ hgoal
        clear hL hkk hgoal hw hV hO hT hsub hsub2 hki hik
        go_enter Tryd.func37, Tryd.ntmps37
        go_wp2_with fail
        refine hC.mono ?_
        rintro e w3 ⟨rfl, rfl⟩
        clear hC
        replace hR := hR w3 (Below.refl _ _)
        go_wp2_with fail
        refine hR.mono ?_
        rintro e w4 ⟨x, y, a4, m4, c4, b, rfl, hb, hg, hP4, hxs, hys, hB4⟩
        clear hR
        replace hB4 := Box.mk hB4
        cases b with
        | false =>
          have hfalse : Box (false = decide (V + 1 ≤ ps.length)) := ⟨by simp at hb ⊢; omega⟩
          clear hb hg hP4 hxs hys hstep
          go_wp2_with fail
          go_returns
          exact ⟨_, _, _, _, _, _, rfl, hfalse.out, (fun h => by cases h), pa_nil _, by decide, by decide, hB4.out⟩
        | true =>
          rw [if_pos rfl] at hP4
          have hl4 := hP4.len
          rw [List.length_drop] at hl4
          have hle : V ≤ ps.length := by simpa using hb
          rcases Nat.eq_zero_or_pos m4 with h0 | h0
          · subst h0
            have hfalse : Box (false = decide (V + 1 ≤ ps.length)) := ⟨by simp; omega⟩
            clear hb hg hP4 hxs hys hstep hle hl4
            go_wp2_with fail
            go_returns
            exact ⟨_, _, _, _, _, _, rfl, hfalse.out, (fun h => by cases h), pa_nil _, by decide, by decide, hB4.out⟩
          · have hm0' : ((m4 : Int) == 0) = false := by simp; omega
            have htrue : Box (true = decide (V + 1 ≤ ps.length)) := ⟨by simp; omega⟩
            have hcap := hP4.cap
            have htop := hP4.top
            obtain ⟨blk, off, rfl, hlt, hcell⟩ := hP4.cell 0 h0
            rw [Nat.add_zero] at hcell
            have hzs := (hF.out.drop V).getD 0
            obtain ⟨z, hz⟩ : ∃ z, (ps.drop V).getD 0 ByteArray.empty = z := ⟨_, rfl⟩
            have hus := hstep x y z (by omega) hz (hg rfl)
            rw [hz] at hcell hzs
            have hN1 := fun w' => rnode_any z x w' hzs hxs
            have hN2 := fun w' => rnode_any z y w' hzs hys
            have hc2 : ∀ w', Below w4.heap.size w4 w' → w'.cell? ⟨blk, off, none⟩ = some (.string z) := fun w' hb => (hb.cell (p := ⟨blk, off, none⟩) hlt).trans hcell
            replace hc2 := Box.mk hc2
            have hPd : ∀ w', Below w4.heap.size w4 w' → PA w' (some ⟨blk, off + 1, none⟩) (m4 - 1) (c4 - 1) (ps.drop (V + 1)) := fun w' hb => by
              have := (hP4.here hb).drop (k := 1) (by omega)
              rw [List.drop_drop] at this
              exact this
            replace hPd := Box.mk hPd
            replace hus := Box.mk hus
            clear hb hg hle hl4 hz hcell hzs hP4 hstep hxs hys
            by_cases hc1 : c4 = 1
            · subst hc1
              obtain rfl : m4 = 1 := by omega
              have hP0 : Box (ps.drop (V + 1) = []) := ⟨List.length_eq_zero_iff.1 ((hPd.out w4 (Below.refl _ _)).len)⟩
              go_wp2_with fail
              refine region_quiet (fun w' => Below w4.heap.size w4 w') (by kernel_rfl) (by kernel_rfl) (dB _) ?_
              repeat (go_big_quiet_step (first | exact fun _ => rfl | rfl))
              refine quiet_val rfl (.string z) (fun w' hw' => by have h3 := hc2.out w' hw'; go_simp) ?_
              simp only [Act.put, List.setIfInBounds_toArray, List.set_cons_succ, List.set_cons_zero]
              repeat (go_big_quiet_step (first | exact fun _ => rfl | rfl))
              refine quiet_call rfl (.string (nodeH z x)) (fun w' hw' => bel_call (hN1 w') hw') (fun w' _ => by go_simp) ?_
              simp only [Act.put, List.setIfInBounds_toArray, List.set_cons_succ, List.set_cons_zero]
              repeat (go_big_quiet_step (first | exact fun _ => rfl | rfl))
              refine quiet_val rfl (.string z) (fun w' hw' => by have h3 := hc2.out w' hw'; go_simp) ?_
              simp only [Act.put, List.setIfInBounds_toArray, List.set_cons_succ, List.set_cons_zero]
              repeat (go_big_quiet_step (first | exact fun _ => rfl | rfl))
              refine quiet_call rfl (.string (nodeH z y)) (fun w' hw' => bel_call (hN2 w') hw') (fun w' _ => by go_simp) ?_
              simp only [Act.put, List.setIfInBounds_toArray, List.set_cons_succ, List.set_cons_zero]
              repeat (go_big_quiet_step (first | exact fun _ => rfl | rfl))
              refine wpQuiet_nil ?_
              intro w7 hw7
              clear hc2
              go_wp2_with fail
              go_returns
              exact ⟨_, _, _, _, _, _, rfl, htrue.out, fun _ => hus.out, by rw [if_pos rfl, hP0.out]; exact pa_none _ _, by rw [nodeH_size]; decide, by rw [nodeH_size]; decide, mono_bel hB4.out hw7 (Nat.le_refl _)⟩
            · skip
              go_wp2_with fail
              refine region_quiet (fun w' => Below w4.heap.size w4 w') (by kernel_rfl) (by kernel_rfl) (dB _) ?_
              repeat (go_big_quiet_step (first | exact fun _ => rfl | rfl))
              refine quiet_val rfl (.string z) (fun w' hw' => by have h3 := hc2.out w' hw'; go_simp) ?_
              simp only [Act.put, List.setIfInBounds_toArray, List.set_cons_succ, List.set_cons_zero]
              repeat (go_big_quiet_step (first | exact fun _ => rfl | rfl))
              refine quiet_call rfl (.string (nodeH z x)) (fun w' hw' => bel_call (hN1 w') hw') (fun w' _ => by go_simp) ?_
              simp only [Act.put, List.setIfInBounds_toArray, List.set_cons_succ, List.set_cons_zero]
              repeat (go_big_quiet_step (first | exact fun _ => rfl | rfl))
              refine quiet_val rfl (.string z) (fun w' hw' => by have h3 := hc2.out w' hw'; go_simp) ?_
              simp only [Act.put, List.setIfInBounds_toArray, List.set_cons_succ, List.set_cons_zero]
              repeat (go_big_quiet_step (first | exact fun _ => rfl | rfl))
              refine quiet_call rfl (.string (nodeH z y)) (fun w' hw' => bel_call (hN2 w') hw') (fun w' _ => by go_simp) ?_
              simp only [Act.put, List.setIfInBounds_toArray, List.set_cons_succ, List.set_cons_zero]
              repeat (go_big_quiet_step (first | exact fun _ => rfl | rfl))
              refine wpQuiet_nil ?_
              intro w7 hw7
              clear hc2
              go_wp2_with fail
              go_returns
              exact ⟨_, _, _, _, _, _, rfl, htrue.out, fun _ => hus.out, by rw [if_pos rfl]; exact hPd.out w7 hw7, by rw [nodeH_size]; decide, by rw [nodeH_size]; decide, mono_bel hB4.out hw7 (Nat.le_refl _)⟩
end Go.Proofs.YtdomennhoopggaaDoor

namespace Go.Proofs.YtdomennhoopggaaDoor
open Go Go.RowKit

set_option maxHeartbeats 3200000 in
set_option maxRecDepth 100000 in
theorem rconsistent_any (m n : Int) (old root : ByteArray) (ps : List ByteArray) (p : Nat) (a : Option Addr) (c : Nat) (w : World) (hP : PA w a p c ps) (hF : Fit ps) (hold : old.size ≤ 70000000000000) (hn63 : n ≤ 9223372036854775807) :
    Calls Tryd.prog 24 #[.int .i64 m, .int .i64 n, .slice a p c, .string old, .string root] w fun e w' => e = .returned (.int .i64 (cosE m n ps old root)) ∧ Below w.heap.size w w' := by
  have hlen := hP.len
  unfold cosE
  by_cases h : 0 ≤ m ∧ m ≤ n
  · rw [if_pos h]
    obtain ⟨m, rfl⟩ : ∃ k : Nat, m = k := ⟨m.toNat, by omega⟩
    obtain ⟨n, rfl⟩ : ∃ k : Nat, n = k := ⟨n.toNat, by omega⟩
    rw [Int.toNat_natCast, Int.toNat_natCast]
    have h1 : ¬ ((m : Int) < 0) := by omega
    have h2 : ¬ ((m : Int) > (n : Int)) := by omega
    have heq : (old.toList == root.toList) = decide (old = root) := eq_toList old root
    unfold cosB
    by_cases hmn : m = n
    · rw [if_pos hmn, hlen]
      subst hmn
      have h3 : ¬ ((m : Int) < (m : Int)) := by omega
      have hE : decide (p = 0 ∧ old = root) = (((p : Int) == 0) && decide (old = root)) := by rw [Bool.eq_iff_iff, decide_eq_true_iff, Bool.and_eq_true, beq_iff_eq, decide_eq_true_iff]; exact ⟨fun h => ⟨by omega, h.2⟩, fun h => ⟨by omega, h.2⟩⟩
      rw [hE]
      obtain ⟨E, hEe⟩ : ∃ E, decide (old = root) = E := ⟨_, rfl⟩
      rw [hEe] at heq ⊢
      clear hP hF hE hEe h hlen
      have hz : ((m : Int) == 0) = true ∧ ¬ ((m : Int) > 0) ∨ ((m : Int) == 0) = false ∧ (m : Int) > 0 := by
        rcases Nat.eq_zero_or_pos m with h | h
        · subst h; exact .inl ⟨rfl, by omega⟩
        · exact .inr ⟨by simp; omega, by omega⟩
      have hp : ((p : Int) == 0) = true ∨ ((p : Int) == 0) = false := by cases ((p : Int) == 0) <;> simp
      rcases hz with ⟨hz1, hz2⟩ | ⟨hz1, hz2⟩ <;> rcases hp with hp | hp <;> cases E <;> rw [hp]
      all_goals
        go_enter Tryd.func24, Tryd.ntmps24
        go_wp2_with fail
        go_ret
        exact ⟨rfl, Below.refl _ _⟩
    · rw [if_neg hmn]
      have hmn2 : (m : Int) < (n : Int) := by omega
      have hn0 : (n : Int) > 0 := by omega
      by_cases hm0 : m = 0
      · subst hm0
        rw [if_pos rfl, hlen]
        have heq2 : (old.toList == noneH.toList) = decide (old = noneH) := eq_toList old noneH
        have hE : decide (p = 0 ∧ old = noneH) = (((p : Int) == 0) && decide (old = noneH)) := by rw [Bool.eq_iff_iff, decide_eq_true_iff, Bool.and_eq_true, beq_iff_eq, decide_eq_true_iff]; exact ⟨fun h => ⟨by omega, h.2⟩, fun h => ⟨by omega, h.2⟩⟩
        rw [hE]
        have hS := rsum_parts (.slice none 0 0) [] w ⟨none, 0, rfl, fun h => absurd h (Nat.lt_irrefl 0)⟩ (by simp [flat]) (by simp)
        rw [show hashOf (flat []) = noneH from rfl] at hS
        obtain ⟨E, hEe⟩ : ∃ E, decide (old = noneH) = E := ⟨_, rfl⟩
        rw [hEe] at heq2 ⊢
        obtain ⟨z, hz⟩ : ∃ z, noneH = z := ⟨_, rfl⟩
        rw [hz] at hS heq2
        obtain ⟨G, hG⟩ : ∃ G, decide (old = root) = G := ⟨_, rfl⟩
        rw [hG] at heq
        clear hP hF hE hEe h hlen hz hG
        have hp : ((p : Int) == 0) = true ∨ ((p : Int) == 0) = false := by cases ((p : Int) == 0) <;> simp
        rcases hp with hp | hp
        · rw [hp]
          have hgt : ¬ ((0 : Int) > 0) := by omega
          cases E
          all_goals
            go_enter Tryd.func24, Tryd.ntmps24
            go_wp2_with fail
            refine hS.mono ?_
            rintro e w5 ⟨rfl, hb⟩
            clear hS
            replace hb := Box.mk hb
            go_wp2_with fail
            go_ret
            exact ⟨rfl, hb.out⟩
        · rw [hp]
          clear hS
          go_enter Tryd.func24, Tryd.ntmps24
          go_wp2_with fail
          go_ret
          exact ⟨rfl, Below.refl _ _⟩
      · rw [if_neg hm0]
        have hm02 : ((m : Int) == 0) = false := by simp; omega
        have hm03 : (m : Int) > 0 := by omega
        have hG := both_any old hold n ps m p true a c w hP hF (by omega) (by omega) (by omega)
        obtain ⟨N, hN⟩ : ∃ N, wants m n true = N := ⟨_, rfl⟩
        obtain ⟨O, hO⟩ : ∃ O, outOf m n true old (ps.take N) = O := ⟨_, rfl⟩
        have hps : ps.length = N → outOf m n true old ps = O := fun h => by rw [← hO, List.take_of_length_le (by omega)]
        unfold Bothed at hG
        rw [hN] at hG ⊢
        rw [hO] at hG
        obtain ⟨O2, hO2⟩ : ∃ O, outOf m n true old ps = O := ⟨_, rfl⟩
        rw [hO2] at hps ⊢
        obtain ⟨G, hGe⟩ : ∃ G, decide (old = root) = G := ⟨_, rfl⟩
        rw [hGe] at heq
        have hp : ((p : Int) == 0) = true ∨ ((p : Int) == 0) = false := by cases ((p : Int) == 0) <;> simp
        clear hP hF h hO hN hO2 hGe
        rcases hp with hp | hp
        all_goals
          go_enter Tryd.func24, Tryd.ntmps24
          go_wp2_with fail
          refine hG.mono ?_
          rintro e w5 ⟨x, y, a5, m5, c5, b, rfl, hb, hg, hP5, _, _, hB5⟩
          clear hG
          have hq1 : (x.toList == old.toList) = decide (x = old) := eq_toList x old
          have hq2 : (y.toList == root.toList) = decide (y = root) := eq_toList y root
          have hl5 := hP5.len
          clear hP5
          replace hB5 := Box.mk hB5
          cases b with
          | false =>
            have hl : ¬ ps.length = N := by have : ¬ N ≤ ps.length := by simpa using hb
                                            omega
            have hfin : Box (decide (ps.length = N ∧ O2 = (old, root)) = false) := ⟨by simp [hl]⟩
            clear hb hg hl hl5
            go_wp2_with fail
            go_ret
            exact ⟨by rw [hfin.out]; rfl, hB5.out⟩
          | true =>
            have hle : N ≤ ps.length := by simpa using hb
            rw [if_pos rfl, List.length_drop] at hl5
            rcases Nat.eq_zero_or_pos m5 with h0 | h0
            · subst h0
              have hl : ps.length = N := by omega
              have hfin : Box (decide (ps.length = N ∧ O2 = (old, root)) = (decide (x = old) && decide (y = root))) := ⟨by rw [hps hl, ← hg rfl]; simp [hl]⟩
              obtain ⟨E1, hE1⟩ : ∃ E, decide (x = old) = E := ⟨_, rfl⟩
              obtain ⟨E2, hE2⟩ : ∃ E, decide (y = root) = E := ⟨_, rfl⟩
              rw [hE1] at hq1 hfin
              rw [hE2] at hq2 hfin
              clear hb hg hl hE1 hE2 hl5 hle
              cases E1 <;> cases E2
              all_goals
                go_wp2_with fail
                go_ret
                exact ⟨by rw [hfin.out]; rfl, hB5.out⟩
            · have hl : ¬ ps.length = N := by omega
              have hm5 : ((m5 : Int) == 0) = false := by simp; omega
              have hfin : Box (decide (ps.length = N ∧ O2 = (old, root)) = false) := ⟨by simp [hl]⟩
              clear hb hg hl hl5 hle
              go_wp2_with fail
              go_ret
              exact ⟨by rw [hfin.out]; rfl, hB5.out⟩
  · rw [if_neg h]
    clear hP hF hold hlen
    by_cases h0 : m < 0
    · go_enter Tryd.func24, Tryd.ntmps24
      go_wp2_with fail
      go_ret
      exact ⟨rfl, Below.refl _ _⟩
    · have h1 : m > n := by omega
      go_enter Tryd.func24, Tryd.ntmps24
      go_wp2_with fail
      go_ret
      exact ⟨rfl, Below.refl _ _⟩
end Go.Proofs.YtdomennhoopggaaDoor

namespace Go.Proofs.YtdomennhoopggaaDoor
open Go Go.RowKit

theorem TxR.pa {B : Nat} {w : World} {a : Option Addr} {n c : Nat} {ids : List ByteArray} (h : TxR B w (.slice a n c) ids) (hn : ids.length = n) : PA w a n c ids := by
  have hp := h.parts
  obtain ⟨hx, ⟨h1, h0⟩ | ⟨g, cap, cur, h1, b1, hg, b2, b3, b4⟩⟩ := h
  · cases h1
    obtain rfl : ids = [] := List.length_eq_zero_iff.1 h0
    exact pa_none _ _
  · cases h1
    refine ⟨hn, by omega, by unfold maxLen at b3; omega, fun h0 => ?_⟩
    obtain ⟨a2, c2, e2, hh⟩ := hp.ex
    cases e2
    have := hh (by omega)
    rw [hn] at this
    exact this
theorem cut3 : cutN 3 = 2 := by decide
theorem cut2 : cutN 2 = 1 := by decide
theorem root2 (a b : ByteArray) : rootL [a, b] = nodeH a b := by
  have h := rootL_cut [a, b] (by simp)
  rw [show cutN [a, b].length = 1 from cut2] at h
  rw [h]
  show nodeH (rootL [a]) (rootL [b]) = _
  rw [rootL_one, rootL_one]
theorem root3 (a b c : ByteArray) : rootL [a, b, c] = nodeH (nodeH a b) c := by
  have h := rootL_cut [a, b, c] (by simp)
  rw [show cutN [a, b, c].length = 2 from cut3] at h
  rw [h]
  show nodeH (rootL [a, b]) (rootL [c]) = _
  rw [root2, rootL_one]
theorem place3 (a b c : ByteArray) : placeL [a, b, c] 0 = [b, c] := by
  have h := placeL_left [a, b, c] (by simp) 0 (cutN_pos _)
  rw [show cutN [a, b, c].length = 2 from cut3] at h
  rw [h]
  show placeL [a, b] 0 ++ [rootL [c]] = _
  have h2 := placeL_left [a, b] (by simp) 0 (cutN_pos _)
  rw [show cutN [a, b].length = 1 from cut2] at h2
  rw [h2]
  show placeL [a] 0 ++ [rootL [b]] ++ [rootL [c]] = _
  rw [placeL_one [a] (by simp), rootL_one, rootL_one]
  rfl
/-- A list's own proof is taken. -/
theorem incd_own (l : List ByteArray) (i n : Nat) (hl : l.length = n) (hi : i < n) : incdE (l.getD i ByteArray.empty) i n (placeL l i) (rootL l) = 0 := by
  obtain ⟨h1, h2⟩ := place_sides n l i hl hi
  unfold incdE
  rw [if_pos ⟨by omega, by omega⟩, Int.toNat_natCast, Int.toNat_natCast, h2]
  simp [h1, errB]
set_option maxHeartbeats 3200000 in
set_option maxRecDepth 100000 in
theorem hashes_any (w : World) (hK : KIs w) :
    Calls Tryd.prog 8 #[] w fun e w' => e = .returned (.bool true) ∧ Below w.heap.size w w' := by
  have hLf := fun x (hx : (⟨#[x]⟩ : ByteArray).size ≤ 140737488354000) w' (hb : Below w.heap.size w w') => tleaf_any ⟨#[x]⟩ w' (hK.below hb hK.lt) hx
  have hA := fun w' hb => hLf 97 (by show 1 ≤ _; omega) w' hb
  have hB := fun w' hb => hLf 98 (by show 1 ≤ _; omega) w' hb
  have hC := fun w' hb => hLf 99 (by show 1 ≤ _; omega) w' hb
  have sA := leafH_size ⟨#[97]⟩
  have sB := leafH_size ⟨#[98]⟩
  have sC := leafH_size ⟨#[99]⟩
  obtain ⟨a, ha⟩ : ∃ a, leafH ⟨#[97]⟩ = a := ⟨_, rfl⟩
  obtain ⟨b, hb⟩ : ∃ a, leafH ⟨#[98]⟩ = a := ⟨_, rfl⟩
  obtain ⟨c, hc⟩ : ∃ a, leafH ⟨#[99]⟩ = a := ⟨_, rfl⟩
  rw [ha] at hA sA
  rw [hb] at hB sB
  rw [hc] at hC sC
  have hF : Fit [a, b, c] := fun x hx => by
    simp only [List.mem_cons, List.not_mem_nil, or_false] at hx
    rcases hx with rfl | rfl | rfl <;> omega
  have hF2 : Fit [b, c] := fun x hx => hF x (List.mem_cons_of_mem _ hx)
  have hI := fun w' (hb : Below w.heap.size w w') x n k (hP : PA w' x n k [a, b, c]) => inclusion_any n [a, b, c] 0 x k w' hP (hK.below hb hK.lt) hF
  have hRt := fun w' (hb : Below w.heap.size w w') x n k (hP : PA w' x n k [a, b, c]) => root_any n [a, b, c] x k w' hP (hK.below hb hK.lt) hF
  have hi1 : incL [a, b, c] 0 = [b, c] := by
    unfold incL
    rw [if_pos ⟨by omega, by simp only [List.length_cons, List.length_nil]; omega⟩]
    exact place3 a b c
  have hi2 : incE [a, b, c] 0 = 0 := by
    unfold incE
    rw [if_pos ⟨by omega, by simp only [List.length_cons, List.length_nil]; omega⟩]
  rw [hi1, hi2] at hI
  have ho : incdE a 0 3 [b, c] (rootL [a, b, c]) = 0 := by
    have := incd_own [a, b, c] 0 3 rfl (by omega)
    rw [place3] at this
    exact this
  have hN1 := fun w' (hb : Below w.heap.size w w') => tnode_any a b w' (hK.below hb hK.lt) (by omega) (by omega)
  have hN2 := fun w' (hb : Below w.heap.size w w') => tnode_any (nodeH a b) c w' (hK.below hb hK.lt) (by rw [nodeH_size]; omega) (by omega)
  rw [← root3 a b c] at hN2
  obtain ⟨r, hr⟩ : ∃ r, rootL [a, b, c] = r := ⟨_, rfl⟩
  obtain ⟨q, hq⟩ : ∃ q, nodeH a b = q := ⟨_, rfl⟩
  rw [hr] at hRt hN2 ho
  rw [hq] at hN1 hN2
  have hInc := fun w' (hb : Below w.heap.size w w') x n k (hP : PA w' x n k [b, c]) => included_any a r 0 3 [b, c] n x k w' hP (hK.below hb hK.lt) hF2 (by omega) (by omega)
  rw [ho] at hInc
  have hl3 : Box (∀ W : World, PA (W.alloc (.cells #[.string a, .string b, .string c] 9)) (some ⟨W.heap.size, 0, none⟩) 3 3 [a, b, c]) := ⟨fun W => by
    refine ⟨rfl, by omega, by omega, fun _ => ⟨W.heap.size, 0, rfl, by simp, fun i hi => ?_⟩⟩
    have := parts_new W [a, b, c] 9
    obtain ⟨a2, c2, e2, hh⟩ := this.ex
    cases e2
    obtain ⟨b3, o3, e3, h3, h4⟩ := hh (by simp)
    cases e3
    exact h4 i hi⟩
  have h32 : ((a.size : Int) == 32) = true := by rw [sA]; rfl
  clear hLf hF hF2 hi1 hi2 ho ha hb hc hr hq sB sC hK
  replace hB := Box.mk hB
  replace hC := Box.mk hC
  replace hI := Box.mk hI
  replace hRt := Box.mk hRt
  replace hN1 := Box.mk hN1
  replace hN2 := Box.mk hN2
  replace hInc := Box.mk hInc
  replace hA := hA w (Below.refl _ _)
  go_enter Tryd.func8, Tryd.ntmps8
  go_wp2_with fail
  refine hA.mono ?_
  rintro e w1 ⟨rfl, hb1⟩
  clear hA
  replace hB := hB.out w1 hb1
  replace hb1 := Box.mk hb1
  go_wp2_with fail
  refine hB.mono ?_
  rintro e w2 ⟨rfl, hb2⟩
  clear hB
  have hb2 := mono_bel hb1.out hb2 (Nat.le_refl _)
  replace hC := hC.out w2 hb2
  replace hb2 := Box.mk hb2
  clear hb1
  go_wp2_with fail
  refine hC.mono ?_
  rintro e w3 ⟨rfl, hb3⟩
  clear hC
  have hb3 := mono_bel hb2.out hb3 (Nat.le_refl _)
  have hP := hl3.out w3
  obtain ⟨W, hW⟩ : ∃ W, w3.alloc (.cells #[.string a, .string b, .string c] 9) = W := ⟨_, rfl⟩
  have hbW := mono_bel hb3 (bel_alloc w3 (.cells #[.string a, .string b, .string c] 9)) (Nat.le_refl _)
  rw [hW] at hP hbW
  replace hI := hI.out W hbW _ _ _ hP
  replace hP := Box.mk hP
  replace hbW := Box.mk hbW
  clear hb2 hb3 hl3
  unfold RowsE at hI
  go_wp2_with fail
  refine hI.mono ?_
  rintro e w4 ⟨v, rfl, hT, hb4⟩
  clear hI
  obtain ⟨x, k, rfl⟩ := hT.shape
  have hPp := hT.pa rfl
  simp only [List.length_cons, List.length_nil, Nat.zero_add, Nat.reduceAdd] at hPp
  replace hP := Box.mk (hP.out.here hb4)
  replace hbW := Box.mk (mono_bel hbW.out hb4 (Nat.le_refl _))
  obtain ⟨blk, off, rfl, hlt, hcell⟩ := hPp.at_ (by omega)
  have k0 : ∀ w', Below w4.heap.size w4 w' → w'.cell? ⟨blk, off, none⟩ = some (.string b) := fun w' hb => (hb.cell (p := ⟨blk, off, none⟩) hlt).trans (hcell 0 (by omega))
  have k1 : ∀ w', Below w4.heap.size w4 w' → w'.cell? ⟨blk, off + 1, none⟩ = some (.string c) := fun w' hb => (hb.cell (p := ⟨blk, off + 1, none⟩) hlt).trans (hcell 1 (by omega))
  replace k0 := Box.mk k0
  replace k1 := Box.mk k1
  replace hPp := Box.mk hPp
  have hRt1 := hRt.out w4 hbW.out _ _ _ hP.out
  clear hT hb4 hcell
  simp only [List.length_cons, List.length_nil, Nat.zero_add, Nat.reduceAdd]
  go_wp2_with fail
  refine hRt1.mono ?_
  rintro e w5 ⟨rfl, hb5⟩
  clear hRt1
  have hN1 := hN1.out w5 (mono_bel hbW.out hb5 (Nat.le_refl _))
  replace hb5 := Box.mk hb5
  go_wp2_with fail
  refine hN1.mono ?_
  rintro e w6 ⟨rfl, hb6⟩
  clear hN1
  replace hb6 := mono_bel hb5.out hb6 (Nat.le_refl _)
  have hN2 := hN2.out w6 (mono_bel hbW.out hb6 (Nat.le_refl _))
  replace hb6 := Box.mk hb6
  clear hb5
  go_wp2_with fail
  refine hN2.mono ?_
  rintro e w7 ⟨rfl, hb7⟩
  clear hN2
  replace hb7 := mono_bel hb6.out hb7 (Nat.le_refl _)
  have hRt2 := hRt.out w7 (mono_bel hbW.out hb7 (Nat.le_refl _)) _ _ _ (hP.out.here hb7)
  have c0 := k0.out w7 hb7
  have c1 := k1.out w7 hb7
  replace hb7 := Box.mk hb7
  clear hb6 hRt
  go_wp2_with fail
  refine hRt2.mono ?_
  rintro e w8 ⟨rfl, hb8⟩
  clear hRt2 c0 c1
  replace hb8 := mono_bel hb7.out hb8 (Nat.le_refl _)
  have hI2 := hInc.out w8 (mono_bel hbW.out hb8 (Nat.le_refl _)) _ _ _ (hPp.out.here hb8)
  replace hb8 := Box.mk hb8
  clear hb7 hInc
  go_wp2_with fail
  refine hI2.mono ?_
  rintro e w9 ⟨rfl, hb9⟩
  clear hI2
  replace hb9 := Box.mk (mono_bel hbW.out (mono_bel hb8.out hb9 (Nat.le_refl _)) (Nat.le_refl _))
  clear hb8
  go_wp2_with fail
  go_ret
  exact ⟨rfl, hb9.out⟩
end Go.Proofs.YtdomennhoopggaaDoor

namespace Go.Proofs.YtdomennhoopggaaDoor
open Go Go.RowKit

theorem enc_one (i : Nat) (hi : i < 80) : (Utf8.encode (48 + (i : Int))).size = 1 := by
  have h : ∀ j : Fin 80, (Utf8.encode (48 + ((j.val : Nat) : Int))).size = 1 := by decide +kernel
  exact h ⟨i, hi⟩
/-- In leaves' loop. -/
structure LvAt (w0 w : World) (i : Nat) (v : Value) : Prop where
  ex : ∃ l : List ByteArray, l.length = i ∧ (∀ x ∈ l, x.size = 32) ∧ TxR w0.heap.size w v l
  bel : Below w0.heap.size w0 w
/-- What leaves answers: so many texts of 32 bytes. -/
def LeavesA (w : World) (n : Nat) (e : Ending) (w' : World) : Prop := ∃ v l, e = .returned v ∧ l.length = n ∧ (∀ x ∈ l, x.size = 32) ∧ TxR w.heap.size w' v l ∧ Below w.heap.size w w'
set_option maxHeartbeats 1600000 in
set_option maxRecDepth 100000 in
theorem leaves_any (n : Nat) (s : ByteArray) (w : World) (hn : n ≤ 79) (hs : s.size ≤ 140737488353000) :
    Calls Tryd.prog 15 #[.int .i64 (n : Int), .string s] w (LeavesA w n) := by
  have hS0 : Box (LvAt w w 0 (.slice none 0 0)) := ⟨⟨⟨[], rfl, (fun x h => by cases h), TxR.nil _ _⟩, Below.refl _ _⟩⟩
  go_enter Tryd.func15, Tryd.ntmps15
  go_wp2_with fail
  go_loopw [5, 6, 8] (fun v5 _ v8 wr => ∃ i : Nat, i ≤ n ∧ v8 = .int .i64 (i : Int) ∧ Box (LvAt w wr i v5)) (fun _ _ v8 _ => n - (intOf v8).toNat)
  case atStart => exact ⟨0, by omega, rfl, hS0⟩
  case round =>
    clear hS0
    obtain ⟨i, hi, rfl, hA⟩ := hrel
    obtain ⟨⟨l, hl, hsz, hT⟩, hB⟩ := hA.out
    clear hA
    by_cases hlt : i < n
    · obtain ⟨a, c, rfl⟩ := hT.shape
      rw [hl]
      replace hT := Box.mk hT
      replace hB := Box.mk hB
      have hcv := run_convert_int_string (P := Tryd.prog) wr 21 9 .i32 (48 + (i : Int)) (by rw [Tryd.underlying21]; rfl) Tryd.underlying9
      have hz4 := enc_one i (by omega)
      obtain ⟨z, hz⟩ : ∃ z, Utf8.encode (48 + (i : Int)) = z := ⟨_, rfl⟩
      rw [hz] at hcv hz4
      clear hz
      have hLf := rleaf_any (s ++ z) wr (by rw [ByteArray.size_append]; omega)
      have hys := leafH_size (s ++ z)
      obtain ⟨y, hy⟩ : ∃ y, leafH (s ++ z) = y := ⟨_, rfl⟩
      rw [hy] at hLf hys
      clear hy
      go_wp2_with fail
      refine hLf.mono ?_
      rintro e w1 ⟨rfl, hb1⟩
      clear hLf hcv
      replace hT := Box.mk (hT.out.here hb1)
      replace hB := Box.mk (mono_bel hB.out hb1 (Nat.le_refl _))
      rw [hl] at hT
      replace hl := Box.mk hl
      clear hb1
      go_wp2_with (at_builtin; refine wpList_pushT rfl (.tmp 11) (.tmp 19) rfl w.heap.size _ l [y] rfl (hT.out.here (bel_alloc _ _)) (by have := hB.out.size; simp; omega) (some ⟨w1.heap.size, 0, none⟩) 1 1 rfl rfl (parts_new w1 [y] 9) (by rw [hl.out]; omega) ?_)
      rintro v2 w2 hp
      have hA2 : Box (LvAt w w2 (i + 1) v2) := ⟨⟨⟨l ++ [y], by simp [hl.out], fun x hx => by
        rcases List.mem_append.1 hx with h | h
        · exact hsz x h
        · rw [List.mem_singleton.1 h]; exact hys, hp.row⟩, hp.bel (mono_bel hB.out (bel_alloc _ _) (Nat.le_refl _)) (hT.out.here (bel_alloc _ _))⟩⟩
      clear hp hT hB
      go_wp2_with fail
      exact ⟨⟨i + 1, by omega, by go_num, hA2⟩, by simp [intOf]; omega⟩
    · obtain rfl : i = n := by omega
      obtain ⟨a, c, rfl⟩ := hT.shape
      rw [hl] at hT ⊢
      replace hT := Box.mk hT
      replace hB := Box.mk hB
      go_wp2_with fail
      go_ret
      exact ⟨_, l, rfl, hl, hsz, hT.out, hB.out⟩
end Go.Proofs.YtdomennhoopggaaDoor

namespace Go.Proofs.YtdomennhoopggaaDoor
open Go Go.RowKit

def texB (ids js : List ByteArray) : Bool := decide (ids = js)
set_option maxHeartbeats 1600000 in
set_option maxRecDepth 100000 in
theorem same_no (a b : Option Addr) (l m c d : Nat) (w : World) (h : l ≠ m) :
    Calls Tryd.prog 20 #[.slice a l c, .slice b m d] w fun e w' => e = .returned (.bool false) ∧ w' = w := by
  have h1 : ¬ (l : Int) = (m : Int) := by omega
  go_enter Tryd.func20, Tryd.ntmps20
  go_wp2_with fail
  go_ret
  exact ⟨rfl, rfl⟩
set_option maxHeartbeats 1600000 in
set_option maxRecDepth 100000 in
theorem same_yes (b1 o1 b2 o2 c d : Nat) (ids js : List ByteArray) (w : World) (hl1 : b1 < w.heap.size) (hl2 : b2 < w.heap.size) (hL : js.length = ids.length) (h1 : ∀ i, i < ids.length → w.cell? ⟨b1, o1 + i, none⟩ = some (.string (ids.getD i ByteArray.empty))) (h2 : ∀ i, i < ids.length → w.cell? ⟨b2, o2 + i, none⟩ = some (.string (js.getD i ByteArray.empty))) (hm : ids.length ≤ maxLen) :
    Calls Tryd.prog 20 #[.slice (some ⟨b1, o1, none⟩) ids.length c, .slice (some ⟨b2, o2, none⟩) ids.length d] w fun e w' => e = .returned (.bool (texB ids js)) ∧ Below w.heap.size w w' := by
  obtain ⟨L, hLe⟩ : ∃ L, ids.length = L := ⟨_, rfl⟩
  have hne : ∀ i, i < L → ids.getD i ByteArray.empty ≠ js.getD i ByteArray.empty → texB ids js = false := fun i hi e => by
    unfold texB
    rw [decide_eq_false_iff_not]
    intro h; rw [h] at e; exact e rfl
  have hall : (∀ i, i < L → ids.getD i ByteArray.empty = js.getD i ByteArray.empty) → texB ids js = true := fun h => by
    unfold texB
    rw [decide_eq_true_eq]
    apply List.ext_getElem (by omega)
    intro i k1 k2
    have := h i (by omega)
    simpa [List.getD, k1, k2] using this
  rw [hLe] at h1 h2 hm ⊢
  unfold maxLen at hm
  obtain ⟨E, hE⟩ : ∃ E, texB ids js = E := ⟨_, rfl⟩
  rw [hE] at hne hall ⊢
  replace h1 := Box.mk h1
  replace h2 := Box.mk h2
  replace hne := Box.mk hne
  replace hall := Box.mk hall
  have hB0 : Box (Below w.heap.size w w) := ⟨Below.refl _ _⟩
  have l1 := Box.mk hl1
  have l2 := Box.mk hl2
  clear hE hLe hL hl1 hl2
  go_enter Tryd.func20, Tryd.ntmps20
  go_wp2_with fail
  go_loopw [5] (fun q wr => ∃ i : Nat, i ≤ L ∧ q = .int .i64 (i : Int) ∧ Box (∀ j, j < i → ids.getD j ByteArray.empty = js.getD j ByteArray.empty) ∧ Box (Below w.heap.size w wr)) (fun q _ => L - (intOf q).toNat)
  case atStart => exact ⟨0, by omega, rfl, ⟨fun j hj => by omega⟩, hB0⟩
  case round =>
    clear hB0
    obtain ⟨i, hi, rfl, hA, hB⟩ := hrel
    by_cases hlt : i < L
    · have hx := (hB.out.cell (p := ⟨b1, o1 + i, none⟩) l1.out).trans (h1.out i hlt)
      have hy := (hB.out.cell (p := ⟨b2, o2 + i, none⟩) l2.out).trans (h2.out i hlt)
      have hnei := hne.out i hlt
      obtain ⟨x, hxe⟩ : ∃ x, ids.getD i ByteArray.empty = x := ⟨_, rfl⟩
      obtain ⟨y, hye⟩ : ∃ y, js.getD i ByteArray.empty = y := ⟨_, rfl⟩
      rw [hxe, hye] at hnei
      rw [hxe] at hx
      rw [hye] at hy
      have hii : (i : Int) < (L : Int) := by omega
      replace hnei := Box.mk hnei
      replace hxe := Box.mk hxe
      replace hye := Box.mk hye
      have heq : (x.toList == y.toList) = decide (x = y) := eq_toList x y
      by_cases hxy : x = y
      · rw [show decide (x = y) = true by simpa using hxy] at heq
        have hA2 : Box (∀ j, j < i + 1 → ids.getD j ByteArray.empty = js.getD j ByteArray.empty) := ⟨fun j hj => by
          by_cases e : j = i
          · subst e; rw [hxe.out, hye.out]; exact hxy
          · exact hA.out j (by omega)⟩
        have hq : (x.toList != y.toList) = false := by rw [bne, heq]; rfl
        clear hxy
        go_wp2_with fail
        go_quiet (fail)
        have hB2 : Box (Below w.heap.size w (wr.drewN nq)) := ⟨hB.out.trans (Drawn.below ⟨nq, rfl⟩)⟩
        clear hB hx hy hA
        go_wp2_with fail
        exact ⟨⟨i + 1, by omega, by go_num, hA2, hB2⟩, by simp [intOf]; omega⟩
      · rw [show decide (x = y) = false by simpa using hxy] at heq
        have hEf : Box (E = false) := ⟨hnei.out hxy⟩
        have hq : (x.toList != y.toList) = true := by rw [bne, heq]; rfl
        clear hxy
        go_wp2_with fail
        go_quiet (fail)
        have hB2 : Box (Below w.heap.size w (wr.drewN nq)) := ⟨hB.out.trans (Drawn.below ⟨nq, rfl⟩)⟩
        clear hB hx hy hA
        go_wp2_with fail
        go_ret
        exact ⟨by rw [hEf.out]; rfl, hB2.out⟩
    · obtain rfl : i = L := by omega
      have hEt : Box (E = true) := ⟨hall.out hA.out⟩
      go_wp2_with fail
      go_ret
      exact ⟨by rw [hEt.out]; rfl, hB.out⟩
theorem same_zero (a b : Option Addr) (c d : Nat) (w : World) :
    Calls Tryd.prog 20 #[.slice a 0 c, .slice b 0 d] w fun e w' => e = .returned (.bool true) ∧ w' = w := by
  go_enter Tryd.func20, Tryd.ntmps20
  go_wp2_with fail
  go_loopw [5] (fun q wr => q = .int .i64 0 ∧ wr = w) (fun _ _ => 0)
  case atStart => exact ⟨rfl, rfl⟩
  case round =>
    obtain ⟨rfl, rfl⟩ := hrel
    go_wp2_with fail
    go_ret
    exact ⟨rfl, rfl⟩
theorem same_any (v u : Value) (ids js : List ByteArray) (w : World) (hv : PartsAt w v ids) (hu : PartsAt w u js) (hm : ids.length ≤ maxLen) :
    Calls Tryd.prog 20 #[v, u] w fun e w' => e = .returned (.bool (texB ids js)) ∧ Below w.heap.size w w' := by
  obtain ⟨a, c, rfl, hh⟩ := hv.ex
  obtain ⟨b, d, rfl, kk⟩ := hu.ex
  by_cases hL : js.length = ids.length
  · by_cases h0 : 0 < ids.length
    · obtain ⟨b1, o1, rfl, hl1, hc1⟩ := hh h0
      obtain ⟨b2, o2, rfl, hl2, hc2⟩ := kk (by omega)
      rw [hL] at hc2 ⊢
      exact same_yes b1 o1 b2 o2 c d ids js w hl1 hl2 hL hc1 hc2 hm
    · obtain rfl : ids = [] := List.length_eq_zero_iff.1 (by omega)
      obtain rfl : js = [] := List.length_eq_zero_iff.1 hL
      refine (same_zero a b c d w).mono ?_
      rintro e w' ⟨he, rfl⟩
      exact ⟨by rw [he]; simp [texB], Below.refl _ _⟩
  · refine (same_no a b ids.length js.length c d w (fun e => hL e.symm)).mono ?_
    rintro e w' ⟨he, rfl⟩
    refine ⟨?_, Below.refl _ _⟩
    rw [he]
    have : texB ids js = false := by
      unfold texB
      rw [decide_eq_false_iff_not]
      intro h; rw [h] at hL; exact hL rfl
    rw [this]
end Go.Proofs.YtdomennhoopggaaDoor
