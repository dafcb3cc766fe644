/- Walk of the document's both. | Walk of the document's Consistent. | Walk of the example of law 8 (hashes). | Walks of leaves of law 8, SameTexts. | Walk of the document's SameTexts. -/
import Derived.Test.YtlkopllpadhnlaaDoorMTd
namespace Go.Proofs.YtlkopllpadhnlaaDoor
open Go Go.RowKit

/-- What the document's both answers. -/
def Bothed (w : World) (m n : Nat) (whole : Bool) (old : ByteArray) (ps : List ByteArray) (e : Ending) (w' : World) : Prop :=
  ∃ x y a p c b, e = .returned (.tuple #[.string x, .string y, .slice a p c, .bool b]) ∧ b = decide (wants m n whole ≤ ps.length) ∧ (b = true → (x, y) = outOf m n whole old (ps.take (wants m n whole))) ∧ PA w' a p c (if b then ps.drop (wants m n whole) else []) ∧
    x.size ≤ 70000000000000 ∧ y.size ≤ 70000000000000 ∧ Below w.heap.size w w'
theorem take_more (ps : List ByteArray) (W : Nat) (h : W < ps.length) : ps.take (W + 1) = ps.take W ++ [(ps.drop W).getD 0 ByteArray.empty] := by
  rw [List.take_succ_eq_append_getElem h]
  congr 1
  simp [List.getD, h]
theorem both_left {m n k : Nat} {whole : Bool} {old x y z : ByteArray} {ps : List ByteArray} (hk : cutN n = k) (hn : 2 ≤ n) (hm : m ≠ n) (hmk : m ≤ k) (hl : wants m k whole < ps.length) (hz : (ps.drop (wants m k whole)).getD 0 ByteArray.empty = z)
    (hg : (x, y) = outOf m k whole old (ps.take (wants m k whole))) : (x, nodeH y z) = outOf m n whole old (ps.take (wants m n whole)) := by
  subst hk
  rw [wants_left m n whole hn hm hmk, take_more ps _ hl, outOf_left m n whole old _ _ hn hm hmk (by simp; omega), ← hg, hz]
theorem both_right {m n k : Nat} {whole : Bool} {old x y z : ByteArray} {ps : List ByteArray} (hk : cutN n = k) (hn : 2 ≤ n) (hm : m ≠ n) (hmk : k < m) (hl : wants (m - k) (n - k) false < ps.length) (hz : (ps.drop (wants (m - k) (n - k) false)).getD 0 ByteArray.empty = z)
    (hg : (x, y) = outOf (m - k) (n - k) false old (ps.take (wants (m - k) (n - k) false))) : (nodeH z x, nodeH z y) = outOf m n whole old (ps.take (wants m n whole)) := by
  subst hk
  rw [wants_right m n whole hn hm hmk, take_more ps _ hl, outOf_right m n whole old _ _ hn hm hmk (by simp; omega), ← hg, hz]
set_option maxHeartbeats 6400000 in
set_option maxRecDepth 100000 in
theorem both_any (old : ByteArray) (hold : old.size ≤ 70000000000000) : ∀ (n : Nat) (ps : List ByteArray) (m p : Nat) (whole : Bool) (a : Option Addr) (c : Nat) (w : World), PA w a p c ps → Fit ps → 0 < m → m ≤ n → n ≤ 9223372036854775807 →
    Calls Tryd.prog 55 #[.int .i64 (m : Int), .int .i64 (n : Int), .bool whole, .string old, .slice a p c] w (Bothed w m n whole old ps) := by
  intro n
  induction n using Nat.strongRecOn with
  | ind n ih =>
    intro ps m p whole a c w hP hF hm0 hm hn63
    have hlen := hP.len
    by_cases hmn : m = n
    · subst hmn
      cases whole with
      | true =>
        have hfin : Box (true = decide (wants m m true ≤ ps.length)) := ⟨by rw [wants_all, if_pos rfl]; simp⟩
        have hout : Box ((old, old) = outOf m m true old (ps.take (wants m m true))) := ⟨by rw [outOf_all, if_pos rfl]⟩
        have hw0 : Box (ps.drop (wants m m true) = ps) := ⟨by rw [wants_all, if_pos rfl]; rfl⟩
        replace hP := Box.mk hP
        clear ih hF hlen hm hm0
        go_enter Tryd.func55, Tryd.ntmps55
        go_wp2_with fail
        go_returns
        exact ⟨_, _, _, _, _, _, rfl, hfin.out, fun _ => hout.out, by rw [if_pos rfl, hw0.out]; exact hP.out, hold, hold, Below.refl _ _⟩
      | false =>
        rcases Nat.eq_zero_or_pos p with h0 | h0
        · subst h0
          have hfalse : Box (false = decide (wants m m false ≤ ps.length)) := ⟨by rw [wants_all, if_neg (by simp), hlen]; simp⟩
          clear ih hP hF hlen hm hm0
          go_enter Tryd.func55, Tryd.ntmps55
          go_wp2_with fail
          go_returns
          exact ⟨_, _, _, _, _, _, rfl, hfalse.out, (fun h => by cases h), pa_nil _, by decide, by decide, Below.refl _ _⟩
        · skip
          have hcap := hP.cap
          have htop := hP.top
          have htrue : Box (true = decide (wants m m false ≤ ps.length)) := ⟨by rw [wants_all, if_neg (by simp)]; simp; omega⟩
          obtain ⟨blk, off, rfl, hlt, hcell⟩ := hP.cell 0 h0
          rw [Nat.add_zero] at hcell
          have hxs := hF.getD 0
          have hout0 : outOf m m false old (ps.take 1) = (ps.getD 0 ByteArray.empty, ps.getD 0 ByteArray.empty) := by
            rw [outOf_all, if_neg (by simp)]
            simp [List.getD]
          obtain ⟨x, hx⟩ : ∃ x, ps.getD 0 ByteArray.empty = x := ⟨_, rfl⟩
          rw [hx] at hcell hxs hout0
          have hout : Box ((x, x) = outOf m m false old (ps.take (wants m m false))) := ⟨by rw [wants_all, if_neg (by simp), hout0]⟩
          have hc2 : ∀ w', Below w.heap.size w w' → w'.cell? ⟨blk, off, none⟩ = some (.string x) := fun w' hb => (hb.cell (p := ⟨blk, off, none⟩) hlt).trans hcell
          replace hc2 := Box.mk hc2
          have hPd : ∀ w', Below w.heap.size w w' → PA w' (some ⟨blk, off + 1, none⟩) (p - 1) (c - 1) (ps.drop (wants m m false)) := fun w' hb => by
            rw [wants_all, if_neg (by simp)]
            exact (hP.here hb).drop (k := 1) (by omega)
          replace hPd := Box.mk hPd
          have hp0 : ((p : Int) == 0) = false := by simp; omega
          clear ih hF hP hm hm0 hx hcell hout0 hlen
          by_cases hc1 : c = 1
          · subst hc1
            obtain rfl : p = 1 := by omega
            have hP0 : Box (ps.drop (wants m m false) = []) := ⟨List.length_eq_zero_iff.1 ((hPd.out w (Below.refl _ _)).len)⟩
            go_enter Tryd.func55, Tryd.ntmps55
            go_wp2_with fail
            refine region_quiet (fun w' => Below w.heap.size w w') (by kernel_rfl) (by kernel_rfl) (dB _) ?_
            repeat (go_big_quiet_step (first | exact fun _ => rfl | rfl))
            refine quiet_val rfl (.string x) (fun w' hw' => by have h3 := hc2.out w' hw'; go_simp) ?_
            simp only [Act.put, List.setIfInBounds_toArray, List.set_cons_succ, List.set_cons_zero]
            repeat (go_big_quiet_step (first | exact fun _ => rfl | rfl))
            refine quiet_val rfl (.string x) (fun w' hw' => by have h3 := hc2.out w' hw'; go_simp) ?_
            simp only [Act.put, List.setIfInBounds_toArray, List.set_cons_succ, List.set_cons_zero]
            repeat (go_big_quiet_step (first | exact fun _ => rfl | rfl))
            refine wpQuiet_nil ?_
            intro w7 hw7
            go_wp2_with fail
            go_returns
            exact ⟨_, _, _, _, _, _, rfl, htrue.out, fun _ => hout.out, by rw [if_pos rfl, hP0.out]; exact pa_none _ _, hxs, hxs, hw7⟩
          · skip
            go_enter Tryd.func55, Tryd.ntmps55
            go_wp2_with fail
            refine region_quiet (fun w' => Below w.heap.size w w') (by kernel_rfl) (by kernel_rfl) (dB _) ?_
            repeat (go_big_quiet_step (first | exact fun _ => rfl | rfl))
            refine quiet_val rfl (.string x) (fun w' hw' => by have h3 := hc2.out w' hw'; go_simp) ?_
            simp only [Act.put, List.setIfInBounds_toArray, List.set_cons_succ, List.set_cons_zero]
            repeat (go_big_quiet_step (first | exact fun _ => rfl | rfl))
            refine quiet_val rfl (.string x) (fun w' hw' => by have h3 := hc2.out w' hw'; go_simp) ?_
            simp only [Act.put, List.setIfInBounds_toArray, List.set_cons_succ, List.set_cons_zero]
            repeat (go_big_quiet_step (first | exact fun _ => rfl | rfl))
            refine wpQuiet_nil ?_
            intro w7 hw7
            go_wp2_with fail
            go_returns
            exact ⟨_, _, _, _, _, _, rfl, htrue.out, fun _ => hout.out, by rw [if_pos rfl]; exact hPd.out w7 hw7, hxs, hxs, hw7⟩
    · have hn : 2 ≤ n := by omega
      have hmn2 : ((m : Int) == (n : Int)) = false := by simp; omega
      have hk := cutN_lt hn
      have hk0 := cutN_pos n
      have hC := power_any n w hn hn63
      have hL := fun (hik : m ≤ cutN n) w' (hb : Below w.heap.size w w') => ih (cutN n) hk ps m p whole a c w' (hP.here hb) hF hm0 hik (by omega)
      have hR := fun (hik : cutN n < m) w' (hb : Below w.heap.size w w') => ih (n - cutN n) (by omega) ps (m - cutN n) p false a c w' (hP.here hb) hF (by omega) (by omega) (by omega)
      obtain ⟨k, hkk⟩ : ∃ k, cutN n = k := ⟨_, rfl⟩
      rw [hkk] at hk hk0 hC hL hR
      clear ih hP hlen
      replace hF := Box.mk hF
      by_cases hik : m ≤ k
      · have hik2 : (m : Int) ≤ (k : Int) := by omega
        replace hL := hL hik
        have hw : wants m n whole = wants m k whole + 1 := by rw [← hkk] at hik ⊢; exact wants_left m n whole hn hmn hik
        have hstep := fun x y z => both_left (m := m) (n := n) (k := k) (whole := whole) (old := old) (x := x) (y := y) (z := z) (ps := ps) hkk hn hmn hik
        obtain ⟨V, hV⟩ : ∃ V, wants m k whole = V := ⟨_, rfl⟩
        obtain ⟨O, hO⟩ : ∃ O, outOf m k whole old (ps.take V) = O := ⟨_, rfl⟩
        obtain ⟨T, hT⟩ : ∃ T, outOf m n whole old (ps.take (V + 1)) = T := ⟨_, rfl⟩
        unfold Bothed at hL
        rw [hV, hO] at hL
        rw [hw, hV, hO, hT] at hstep
        rw [hV] at hw
        have hgoal : ∀ e w', (∃ x y a p c b, e = Ending.returned (.tuple #[.string x, .string y, .slice a p c, .bool b]) ∧ b = decide (V + 1 ≤ ps.length) ∧ (b = true → (x, y) = T) ∧ PA w' a p c (if b then ps.drop (V + 1) else []) ∧ x.size ≤ 70000000000000 ∧ y.size ≤ 70000000000000 ∧ Below w.heap.size w w') → Bothed w m n whole old ps e w' := fun e w' h => by
          unfold Bothed
          rw [hw, hT]
          exact h
        refine Calls.mono ?_ hgoal
        clear hR hkk hgoal hw hV hO hT
        go_enter Tryd.func55, Tryd.ntmps55
        go_wp2_with fail
        refine hC.mono ?_
        rintro e w3 ⟨rfl, rfl⟩
        clear hC
        replace hL := hL w3 (Below.refl _ _)
        go_wp2_with fail
        refine hL.mono ?_
        rintro e w4 ⟨x, y, a4, m4, c4, b, rfl, hb, hg, hP4, hxs, hys, hB4⟩
        clear hL
        replace hB4 := Box.mk hB4
        cases b with
        | false =>
          have hfalse : Box (false = decide (V + 1 ≤ ps.length)) := ⟨by simp at hb ⊢; omega⟩
          clear hb hg hP4 hxs hys hstep
          go_wp2_with fail
          go_returns
          exact ⟨_, _, _, _, _, _, rfl, hfalse.out, (fun h => by cases h), pa_nil _, by decide, by decide, hB4.out⟩
        | true =>
          rw [if_pos rfl] at hP4
          have hl4 := hP4.len
          rw [List.length_drop] at hl4
          have hle : V ≤ ps.length := by simpa using hb
          rcases Nat.eq_zero_or_pos m4 with h0 | h0
          · subst h0
            have hfalse : Box (false = decide (V + 1 ≤ ps.length)) := ⟨by simp; omega⟩
            clear hb hg hP4 hxs hys hstep hle hl4
            go_wp2_with fail
            go_returns
            exact ⟨_, _, _, _, _, _, rfl, hfalse.out, (fun h => by cases h), pa_nil _, by decide, by decide, hB4.out⟩
          · have hm0' : ((m4 : Int) == 0) = false := by simp; omega
            have htrue : Box (true = decide (V + 1 ≤ ps.length)) := ⟨by simp; omega⟩
            have hcap := hP4.cap
            have htop := hP4.top
            obtain ⟨blk, off, rfl, hlt, hcell⟩ := hP4.cell 0 h0
            rw [Nat.add_zero] at hcell
            have hzs := (hF.out.drop V).getD 0
            obtain ⟨z, hz⟩ : ∃ z, (ps.drop V).getD 0 ByteArray.empty = z := ⟨_, rfl⟩
            have hus := hstep x y z (by omega) hz (hg rfl)
            rw [hz] at hcell hzs
            have hN1 := fun w' => rnode_any y z w' hys hzs
            have hc2 : ∀ w', Below w4.heap.size w4 w' → w'.cell? ⟨blk, off, none⟩ = some (.string z) := fun w' hb => (hb.cell (p := ⟨blk, off, none⟩) hlt).trans hcell
            replace hc2 := Box.mk hc2
            have hPd : ∀ w', Below w4.heap.size w4 w' → PA w' (some ⟨blk, off + 1, none⟩) (m4 - 1) (c4 - 1) (ps.drop (V + 1)) := fun w' hb => by
              have := (hP4.here hb).drop (k := 1) (by omega)
              rw [List.drop_drop] at this
              exact this
            replace hPd := Box.mk hPd
            replace hus := Box.mk hus
            clear hb hg hle hl4 hz hcell hzs hP4 hstep hys
            by_cases hc1 : c4 = 1
            · subst hc1
              obtain rfl : m4 = 1 := by omega
              have hP0 : Box (ps.drop (V + 1) = []) := ⟨List.length_eq_zero_iff.1 ((hPd.out w4 (Below.refl _ _)).len)⟩
              go_wp2_with fail
              refine region_quiet (fun w' => Below w4.heap.size w4 w') (by kernel_rfl) (by kernel_rfl) (dB _) ?_
              repeat (go_big_quiet_step (first | exact fun _ => rfl | rfl))
              refine quiet_val rfl (.string z) (fun w' hw' => by have h3 := hc2.out w' hw'; go_simp) ?_
              simp only [Act.put, List.setIfInBounds_toArray, List.set_cons_succ, List.set_cons_zero]
              repeat (go_big_quiet_step (first | exact fun _ => rfl | rfl))
              refine quiet_call rfl (.string (nodeH y z)) (fun w' hw' => bel_call (hN1 w') hw') (fun w' _ => by go_simp) ?_
              simp only [Act.put, List.setIfInBounds_toArray, List.set_cons_succ, List.set_cons_zero]
              repeat (go_big_quiet_step (first | exact fun _ => rfl | rfl))
              refine wpQuiet_nil ?_
              intro w7 hw7
              clear hc2
              go_wp2_with fail
              go_returns
              exact ⟨_, _, _, _, _, _, rfl, htrue.out, fun _ => hus.out, by rw [if_pos rfl, hP0.out]; exact pa_none _ _, hxs, by rw [nodeH_size]; decide, mono_bel hB4.out hw7 (Nat.le_refl _)⟩
            · skip
              go_wp2_with fail
              refine region_quiet (fun w' => Below w4.heap.size w4 w') (by kernel_rfl) (by kernel_rfl) (dB _) ?_
              repeat (go_big_quiet_step (first | exact fun _ => rfl | rfl))
              refine quiet_val rfl (.string z) (fun w' hw' => by have h3 := hc2.out w' hw'; go_simp) ?_
              simp only [Act.put, List.setIfInBounds_toArray, List.set_cons_succ, List.set_cons_zero]
              repeat (go_big_quiet_step (first | exact fun _ => rfl | rfl))
              refine quiet_call rfl (.string (nodeH y z)) (fun w' hw' => bel_call (hN1 w') hw') (fun w' _ => by go_simp) ?_
              simp only [Act.put, List.setIfInBounds_toArray, List.set_cons_succ, List.set_cons_zero]
              repeat (go_big_quiet_step (first | exact fun _ => rfl | rfl))
              refine wpQuiet_nil ?_
              intro w7 hw7
              clear hc2
              go_wp2_with fail
              go_returns
              exact ⟨_, _, _, _, _, _, rfl, htrue.out, fun _ => hus.out, by rw [if_pos rfl]; exact hPd.out w7 hw7, hxs, by rw [nodeH_size]; decide, mono_bel hB4.out hw7 (Nat.le_refl _)⟩
      · have hik2 : ¬ (m : Int) ≤ (k : Int) := by omega
        have hki : k < m := by omega
        have hsub : (m : Int) - (k : Int) = ((m - k : Nat) : Int) := by omega
        have hsub2 : (n : Int) - (k : Int) = ((n - k : Nat) : Int) := by omega
        replace hR := hR hki
        rw [← hsub, ← hsub2] at hR
        have hw : wants m n whole = wants (m - k) (n - k) false + 1 := by rw [← hkk] at hki ⊢; exact wants_right m n whole hn hmn hki
        have hstep := fun x y z => both_right (m := m) (n := n) (k := k) (whole := whole) (old := old) (x := x) (y := y) (z := z) (ps := ps) hkk hn hmn hki
        obtain ⟨V, hV⟩ : ∃ V, wants (m - k) (n - k) false = V := ⟨_, rfl⟩
        obtain ⟨O, hO⟩ : ∃ O, outOf (m - k) (n - k) false old (ps.take V) = O := ⟨_, rfl⟩
        obtain ⟨T, hT⟩ : ∃ T, outOf m n whole old (ps.take (V + 1)) = T := ⟨_, rfl⟩
        unfold Bothed at hR
        rw [hV, hO] at hR
        rw [hw, hV, hO, hT] at hstep
        rw [hV] at hw
        have hgoal : ∀ e w', (∃ x y a p c b, e = Ending.returned (.tuple #[.string x, .string y, .slice a p c, .bool b]) ∧ b = decide (V + 1 ≤ ps.length) ∧ (b = true → (x, y) = T) ∧ PA w' a p c (if b then ps.drop (V + 1) else []) ∧ x.size ≤ 70000000000000 ∧ y.size ≤ 70000000000000 ∧ Below w.heap.size w w') → Bothed w m n whole old ps e w' := fun e w' h => by
          unfold Bothed
          rw [hw, hT]
          exact h
        refine Calls.mono ?_ hgoal
        clear hL hkk hgoal hw hV hO hT hsub hsub2 hki hik
        go_enter Tryd.func55, Tryd.ntmps55
        go_wp2_with fail
        refine hC.mono ?_
        rintro e w3 ⟨rfl, rfl⟩
        clear hC
        replace hR := hR w3 (Below.refl _ _)
        go_wp2_with fail
        refine hR.mono ?_
        rintro e w4 ⟨x, y, a4, m4, c4, b, rfl, hb, hg, hP4, hxs, hys, hB4⟩
        clear hR
        replace hB4 := Box.mk hB4
        cases b with
        | false =>
          have hfalse : Box (false = decide (V + 1 ≤ ps.length)) := ⟨by simp at hb ⊢; omega⟩
          clear hb hg hP4 hxs hys hstep
          go_wp2_with fail
          go_returns
          exact ⟨_, _, _, _, _, _, rfl, hfalse.out, (fun h => by cases h), pa_nil _, by decide, by decide, hB4.out⟩
        | true =>
          rw [if_pos rfl] at hP4
          have hl4 := hP4.len
          rw [List.length_drop] at hl4
          have hle : V ≤ ps.length := by simpa using hb
          rcases Nat.eq_zero_or_pos m4 with h0 | h0
          · subst h0
            have hfalse : Box (false = decide (V + 1 ≤ ps.length)) := ⟨by simp; omega⟩
            clear hb hg hP4 hxs hys hstep hle hl4
            go_wp2_with fail
            go_returns
            exact ⟨_, _, _, _, _, _, rfl, hfalse.out, (fun h => by cases h), pa_nil _, by decide, by decide, hB4.out⟩
          · have hm0' : ((m4 : Int) == 0) = false := by simp; omega
            have htrue : Box (true = decide (V + 1 ≤ ps.length)) := ⟨by simp; omega⟩
            have hcap := hP4.cap
            have htop := hP4.top
            obtain ⟨blk, off, rfl, hlt, hcell⟩ := hP4.cell 0 h0
            rw [Nat.add_zero] at hcell
            have hzs := (hF.out.drop V).getD 0
            obtain ⟨z, hz⟩ : ∃ z, (ps.drop V).getD 0 ByteArray.empty = z := ⟨_, rfl⟩
            have hus := hstep x y z (by omega) hz (hg rfl)
            rw [hz] at hcell hzs
            have hN1 := fun w' => rnode_any z x w' hzs hxs
            have hN2 := fun w' => rnode_any z y w' hzs hys
            have hc2 : ∀ w', Below w4.heap.size w4 w' → w'.cell? ⟨blk, off, none⟩ = some (.string z) := fun w' hb => (hb.cell (p := ⟨blk, off, none⟩) hlt).trans hcell
            replace hc2 := Box.mk hc2
            have hPd : ∀ w', Below w4.heap.size w4 w' → PA w' (some ⟨blk, off + 1, none⟩) (m4 - 1) (c4 - 1) (ps.drop (V + 1)) := fun w' hb => by
              have := (hP4.here hb).drop (k := 1) (by omega)
              rw [List.drop_drop] at this
              exact this
            replace hPd := Box.mk hPd
            replace hus := Box.mk hus
            clear hb hg hle hl4 hz hcell hzs hP4 hstep hxs hys
            by_cases hc1 : c4 = 1
            · subst hc1
              obtain rfl : m4 = 1 := by omega
              have hP0 : Box (ps.drop (V + 1) = []) := ⟨List.length_eq_zero_iff.1 ((hPd.out w4 (Below.refl _ _)).len)⟩
              go_wp2_with fail
              refine region_quiet (fun w' => Below w4.heap.size w4 w') (by kernel_rfl) (by kernel_rfl) (dB _) ?_
              repeat (go_big_quiet_step (first | exact fun _ => rfl | rfl))
              refine quiet_val rfl (.string z) (fun w' hw' => by have h3 := hc2.out w' hw'; go_simp) ?_
              simp only [Act.put, List.setIfInBounds_toArray, List.set_cons_succ, List.set_cons_zero]
              repeat (go_big_quiet_step (first | exact fun _ => rfl | rfl))
              refine quiet_call rfl (.string (nodeH z x)) (fun w' hw' => bel_call (hN1 w') hw') (fun w' _ => by go_simp) ?_
              simp only [Act.put, List.setIfInBounds_toArray, List.set_cons_succ, List.set_cons_zero]
              repeat (go_big_quiet_step (first | exact fun _ => rfl | rfl))
              refine quiet_val rfl (.string z) (fun w' hw' => by have h3 := hc2.out w' hw'; go_simp) ?_
              simp only [Act.put, List.setIfInBounds_toArray, List.set_cons_succ, List.set_cons_zero]
              repeat (go_big_quiet_step (first | exact fun _ => rfl | rfl))
              refine quiet_call rfl (.string (nodeH z y)) (fun w' hw' => bel_call (hN2 w') hw') (fun w' _ => by go_simp) ?_
              simp only [Act.put, List.setIfInBounds_toArray, List.set_cons_succ, List.set_cons_zero]
              repeat (go_big_quiet_step (first | exact fun _ => rfl | rfl))
              refine wpQuiet_nil ?_
              intro w7 hw7
              clear hc2
              go_wp2_with fail
              go_returns
              exact ⟨_, _, _, _, _, _, rfl, htrue.out, fun _ => hus.out, by rw [if_pos rfl, hP0.out]; exact pa_none _ _, by rw [nodeH_size]; decide, by rw [nodeH_size]; decide, mono_bel hB4.out hw7 (Nat.le_refl _)⟩
            · skip
              go_wp2_with fail
              refine region_quiet (fun w' => Below w4.heap.size w4 w') (by kernel_rfl) (by kernel_rfl) (dB _) ?_
              repeat (go_big_quiet_step (first | exact fun _ => rfl | rfl))
              refine quiet_val rfl (.string z) (fun w' hw' => by have h3 := hc2.out w' hw'; go_simp) ?_
              simp only [Act.put, List.setIfInBounds_toArray, List.set_cons_succ, List.set_cons_zero]
              repeat (go_big_quiet_step (first | exact fun _ => rfl | rfl))
              refine quiet_call rfl (.string (nodeH z x)) (fun w' hw' => bel_call (hN1 w') hw') (fun w' _ => by go_simp) ?_
              simp only [Act.put, List.setIfInBounds_toArray, List.set_cons_succ, List.set_cons_zero]
              repeat (go_big_quiet_step (first | exact fun _ => rfl | rfl))
              refine quiet_val rfl (.string z) (fun w' hw' => by have h3 := hc2.out w' hw'; go_simp) ?_
              simp only [Act.put, List.setIfInBounds_toArray, List.set_cons_succ, List.set_cons_zero]
              repeat (go_big_quiet_step (first | exact fun _ => rfl | rfl))
              refine quiet_call rfl (.string (nodeH z y)) (fun w' hw' => bel_call (hN2 w') hw') (fun w' _ => by go_simp) ?_
              simp only [Act.put, List.setIfInBounds_toArray, List.set_cons_succ, List.set_cons_zero]
              repeat (go_big_quiet_step (first | exact fun _ => rfl | rfl))
              refine wpQuiet_nil ?_
              intro w7 hw7
              clear hc2
              go_wp2_with fail
              go_returns
              exact ⟨_, _, _, _, _, _, rfl, htrue.out, fun _ => hus.out, by rw [if_pos rfl]; exact hPd.out w7 hw7, by rw [nodeH_size]; decide, by rw [nodeH_size]; decide, mono_bel hB4.out hw7 (Nat.le_refl _)⟩
end Go.Proofs.YtlkopllpadhnlaaDoor

namespace Go.Proofs.YtlkopllpadhnlaaDoor
open Go Go.RowKit

set_option maxHeartbeats 3200000 in
set_option maxRecDepth 100000 in
theorem rconsistent_any (m n : Int) (old root : ByteArray) (ps : List ByteArray) (p : Nat) (a : Option Addr) (c : Nat) (w : World) (hP : PA w a p c ps) (hF : Fit ps) (hold : old.size ≤ 70000000000000) (hn63 : n ≤ 9223372036854775807) :
    Calls Tryd.prog 27 #[.int .i64 m, .int .i64 n, .slice a p c, .string old, .string root] w fun e w' => e = .returned (.int .i64 (cosE m n ps old root)) ∧ Below w.heap.size w w' := by
  have hlen := hP.len
  unfold cosE
  by_cases h : 0 ≤ m ∧ m ≤ n
  · rw [if_pos h]
    obtain ⟨m, rfl⟩ : ∃ k : Nat, m = k := ⟨m.toNat, by omega⟩
    obtain ⟨n, rfl⟩ : ∃ k : Nat, n = k := ⟨n.toNat, by omega⟩
    rw [Int.toNat_natCast, Int.toNat_natCast]
    have h1 : ¬ ((m : Int) < 0) := by omega
    have h2 : ¬ ((m : Int) > (n : Int)) := by omega
    have heq : (old.toList == root.toList) = decide (old = root) := eq_toList old root
    unfold cosB
    by_cases hmn : m = n
    · rw [if_pos hmn, hlen]
      subst hmn
      have h3 : ¬ ((m : Int) < (m : Int)) := by omega
      have hE : decide (p = 0 ∧ old = root) = (((p : Int) == 0) && decide (old = root)) := by rw [Bool.eq_iff_iff, decide_eq_true_iff, Bool.and_eq_true, beq_iff_eq, decide_eq_true_iff]; exact ⟨fun h => ⟨by omega, h.2⟩, fun h => ⟨by omega, h.2⟩⟩
      rw [hE]
      obtain ⟨E, hEe⟩ : ∃ E, decide (old = root) = E := ⟨_, rfl⟩
      rw [hEe] at heq ⊢
      clear hP hF hE hEe h hlen
      have hz : ((m : Int) == 0) = true ∧ ¬ ((m : Int) > 0) ∨ ((m : Int) == 0) = false ∧ (m : Int) > 0 := by
        rcases Nat.eq_zero_or_pos m with h | h
        · subst h; exact .inl ⟨rfl, by omega⟩
        · exact .inr ⟨by simp; omega, by omega⟩
      have hp : ((p : Int) == 0) = true ∨ ((p : Int) == 0) = false := by cases ((p : Int) == 0) <;> simp
      rcases hz with ⟨hz1, hz2⟩ | ⟨hz1, hz2⟩ <;> rcases hp with hp | hp <;> cases E <;> rw [hp]
      all_goals
        go_enter Tryd.func27, Tryd.ntmps27
        go_wp2_with fail
        go_ret
        exact ⟨rfl, Below.refl _ _⟩
    · rw [if_neg hmn]
      have hmn2 : (m : Int) < (n : Int) := by omega
      have hn0 : (n : Int) > 0 := by omega
      by_cases hm0 : m = 0
      · subst hm0
        rw [if_pos rfl, hlen]
        have heq2 : (old.toList == noneH.toList) = decide (old = noneH) := eq_toList old noneH
        have hE : decide (p = 0 ∧ old = noneH) = (((p : Int) == 0) && decide (old = noneH)) := by rw [Bool.eq_iff_iff, decide_eq_true_iff, Bool.and_eq_true, beq_iff_eq, decide_eq_true_iff]; exact ⟨fun h => ⟨by omega, h.2⟩, fun h => ⟨by omega, h.2⟩⟩
        rw [hE]
        have hS := rsum_parts (.slice none 0 0) [] w ⟨none, 0, rfl, fun h => absurd h (Nat.lt_irrefl 0)⟩ (by simp [flat]) (by simp)
        rw [show hashOf (flat []) = noneH from rfl] at hS
        obtain ⟨E, hEe⟩ : ∃ E, decide (old = noneH) = E := ⟨_, rfl⟩
        rw [hEe] at heq2 ⊢
        obtain ⟨z, hz⟩ : ∃ z, noneH = z := ⟨_, rfl⟩
        rw [hz] at hS heq2
        obtain ⟨G, hG⟩ : ∃ G, decide (old = root) = G := ⟨_, rfl⟩
        rw [hG] at heq
        clear hP hF hE hEe h hlen hz hG
        have hp : ((p : Int) == 0) = true ∨ ((p : Int) == 0) = false := by cases ((p : Int) == 0) <;> simp
        rcases hp with hp | hp
        · rw [hp]
          have hgt : ¬ ((0 : Int) > 0) := by omega
          cases E
          all_goals
            go_enter Tryd.func27, Tryd.ntmps27
            go_wp2_with fail
            refine hS.mono ?_
            rintro e w5 ⟨rfl, hb⟩
            clear hS
            replace hb := Box.mk hb
            go_wp2_with fail
            go_ret
            exact ⟨rfl, hb.out⟩
        · rw [hp]
          clear hS
          go_enter Tryd.func27, Tryd.ntmps27
          go_wp2_with fail
          go_ret
          exact ⟨rfl, Below.refl _ _⟩
      · rw [if_neg hm0]
        have hm02 : ((m : Int) == 0) = false := by simp; omega
        have hm03 : (m : Int) > 0 := by omega
        have hG := both_any old hold n ps m p true a c w hP hF (by omega) (by omega) (by omega)
        obtain ⟨N, hN⟩ : ∃ N, wants m n true = N := ⟨_, rfl⟩
        obtain ⟨O, hO⟩ : ∃ O, outOf m n true old (ps.take N) = O := ⟨_, rfl⟩
        have hps : ps.length = N → outOf m n true old ps = O := fun h => by rw [← hO, List.take_of_length_le (by omega)]
        unfold Bothed at hG
        rw [hN] at hG ⊢
        rw [hO] at hG
        obtain ⟨O2, hO2⟩ : ∃ O, outOf m n true old ps = O := ⟨_, rfl⟩
        rw [hO2] at hps ⊢
        obtain ⟨G, hGe⟩ : ∃ G, decide (old = root) = G := ⟨_, rfl⟩
        rw [hGe] at heq
        have hp : ((p : Int) == 0) = true ∨ ((p : Int) == 0) = false := by cases ((p : Int) == 0) <;> simp
        clear hP hF h hO hN hO2 hGe
        rcases hp with hp | hp
        all_goals
          go_enter Tryd.func27, Tryd.ntmps27
          go_wp2_with fail
          refine hG.mono ?_
          rintro e w5 ⟨x, y, a5, m5, c5, b, rfl, hb, hg, hP5, _, _, hB5⟩
          clear hG
          have hq1 : (x.toList == old.toList) = decide (x = old) := eq_toList x old
          have hq2 : (y.toList == root.toList) = decide (y = root) := eq_toList y root
          have hl5 := hP5.len
          clear hP5
          replace hB5 := Box.mk hB5
          cases b with
          | false =>
            have hl : ¬ ps.length = N := by have : ¬ N ≤ ps.length := by simpa using hb
                                            omega
            have hfin : Box (decide (ps.length = N ∧ O2 = (old, root)) = false) := ⟨by simp [hl]⟩
            clear hb hg hl hl5
            go_wp2_with fail
            go_ret
            exact ⟨by rw [hfin.out]; rfl, hB5.out⟩
          | true =>
            have hle : N ≤ ps.length := by simpa using hb
            rw [if_pos rfl, List.length_drop] at hl5
            rcases Nat.eq_zero_or_pos m5 with h0 | h0
            · subst h0
              have hl : ps.length = N := by omega
              have hfin : Box (decide (ps.length = N ∧ O2 = (old, root)) = (decide (x = old) && decide (y = root))) := ⟨by rw [hps hl, ← hg rfl]; simp [hl]⟩
              obtain ⟨E1, hE1⟩ : ∃ E, decide (x = old) = E := ⟨_, rfl⟩
              obtain ⟨E2, hE2⟩ : ∃ E, decide (y = root) = E := ⟨_, rfl⟩
              rw [hE1] at hq1 hfin
              rw [hE2] at hq2 hfin
              clear hb hg hl hE1 hE2 hl5 hle
              cases E1 <;> cases E2
              all_goals
                go_wp2_with fail
                go_ret
                exact ⟨by rw [hfin.out]; rfl, hB5.out⟩
            · have hl : ¬ ps.length = N := by omega
              have hm5 : ((m5 : Int) == 0) = false := by simp; omega
              have hfin : Box (decide (ps.length = N ∧ O2 = (old, root)) = false) := ⟨by simp [hl]⟩
              clear hb hg hl hl5 hle
              go_wp2_with fail
              go_ret
              exact ⟨by rw [hfin.out]; rfl, hB5.out⟩
  · rw [if_neg h]
    clear hP hF hold hlen
    by_cases h0 : m < 0
    · go_enter Tryd.func27, Tryd.ntmps27
      go_wp2_with fail
      go_ret
      exact ⟨rfl, Below.refl _ _⟩
    · have h1 : m > n := by omega
      go_enter Tryd.func27, Tryd.ntmps27
      go_wp2_with fail
      go_ret
      exact ⟨rfl, Below.refl _ _⟩
end Go.Proofs.YtlkopllpadhnlaaDoor

namespace Go.Proofs.YtlkopllpadhnlaaDoor
open Go Go.RowKit

theorem TxR.pa {B : Nat} {w : World} {a : Option Addr} {n c : Nat} {ids : List ByteArray} (h : TxR B w (.slice a n c) ids) (hn : ids.length = n) : PA w a n c ids := by
  have hp := h.parts
  obtain ⟨hx, ⟨h1, h0⟩ | ⟨g, cap, cur, h1, b1, hg, b2, b3, b4⟩⟩ := h
  · cases h1
    obtain rfl : ids = [] := List.length_eq_zero_iff.1 h0
    exact pa_none _ _
  · cases h1
    refine ⟨hn, by omega, by unfold maxLen at b3; omega, fun h0 => ?_⟩
    obtain ⟨a2, c2, e2, hh⟩ := hp.ex
    cases e2
    have := hh (by omega)
    rw [hn] at this
    exact this
theorem cut3 : cutN 3 = 2 := by decide
theorem cut2 : cutN 2 = 1 := by decide
theorem root2 (a b : ByteArray) : rootL [a, b] = nodeH a b := by
  have h := rootL_cut [a, b] (by simp)
  rw [show cutN [a, b].length = 1 from cut2] at h
  rw [h]
  show nodeH (rootL [a]) (rootL [b]) = _
  rw [rootL_one, rootL_one]
theorem root3 (a b c : ByteArray) : rootL [a, b, c] = nodeH (nodeH a b) c := by
  have h := rootL_cut [a, b, c] (by simp)
  rw [show cutN [a, b, c].length = 2 from cut3] at h
  rw [h]
  show nodeH (rootL [a, b]) (rootL [c]) = _
  rw [root2, rootL_one]
theorem place3 (a b c : ByteArray) : placeL [a, b, c] 0 = [b, c] := by
  have h := placeL_left [a, b, c] (by simp) 0 (cutN_pos _)
  rw [show cutN [a, b, c].length = 2 from cut3] at h
  rw [h]
  show placeL [a, b] 0 ++ [rootL [c]] = _
  have h2 := placeL_left [a, b] (by simp) 0 (cutN_pos _)
  rw [show cutN [a, b].length = 1 from cut2] at h2
  rw [h2]
  show placeL [a] 0 ++ [rootL [b]] ++ [rootL [c]] = _
  rw [placeL_one [a] (by simp), rootL_one, rootL_one]
  rfl
/-- A list's own proof is taken. -/
theorem incd_own (l : List ByteArray) (i n : Nat) (hl : l.length = n) (hi : i < n) : incdE (l.getD i ByteArray.empty) i n (placeL l i) (rootL l) = 0 := by
  obtain ⟨h1, h2⟩ := place_sides n l i hl hi
  unfold incdE
  rw [if_pos ⟨by omega, by omega⟩, Int.toNat_natCast, Int.toNat_natCast, h2]
  simp [h1, errB]
end Go.Proofs.YtlkopllpadhnlaaDoor

namespace Go.Proofs.YtlkopllpadhnlaaDoor
open Go Go.RowKit

theorem enc_one (i : Nat) (hi : i < 80) : (Utf8.encode (48 + (i : Int))).size = 1 := by
  have h : ∀ j : Fin 80, (Utf8.encode (48 + ((j.val : Nat) : Int))).size = 1 := by decide +kernel
  exact h ⟨i, hi⟩
/-- In leaves' loop. -/
structure LvAt (w0 w : World) (i : Nat) (v : Value) : Prop where
  ex : ∃ l : List ByteArray, l.length = i ∧ (∀ x ∈ l, x.size = 32) ∧ TxR w0.heap.size w v l
  bel : Below w0.heap.size w0 w
/-- What leaves answers: so many texts of 32 bytes. -/
def LeavesA (w : World) (n : Nat) (e : Ending) (w' : World) : Prop := ∃ v l, e = .returned v ∧ l.length = n ∧ (∀ x ∈ l, x.size = 32) ∧ TxR w.heap.size w' v l ∧ Below w.heap.size w w'
end Go.Proofs.YtlkopllpadhnlaaDoor

namespace Go.Proofs.YtlkopllpadhnlaaDoor
open Go Go.RowKit

def texB (ids js : List ByteArray) : Bool := decide (ids = js)
set_option maxHeartbeats 1600000 in
set_option maxRecDepth 100000 in
theorem same_no (a b : Option Addr) (l m c d : Nat) (w : World) (h : l ≠ m) :
    Calls Tryd.prog 26 #[.slice a l c, .slice b m d] w fun e w' => e = .returned (.bool false) ∧ w' = w := by
  have h1 : ¬ (l : Int) = (m : Int) := by omega
  go_enter Tryd.func26, Tryd.ntmps26
  go_wp2_with fail
  go_ret
  exact ⟨rfl, rfl⟩
set_option maxHeartbeats 1600000 in
set_option maxRecDepth 100000 in
theorem same_yes (b1 o1 b2 o2 c d : Nat) (ids js : List ByteArray) (w : World) (hl1 : b1 < w.heap.size) (hl2 : b2 < w.heap.size) (hL : js.length = ids.length) (h1 : ∀ i, i < ids.length → w.cell? ⟨b1, o1 + i, none⟩ = some (.string (ids.getD i ByteArray.empty))) (h2 : ∀ i, i < ids.length → w.cell? ⟨b2, o2 + i, none⟩ = some (.string (js.getD i ByteArray.empty))) (hm : ids.length ≤ maxLen) :
    Calls Tryd.prog 26 #[.slice (some ⟨b1, o1, none⟩) ids.length c, .slice (some ⟨b2, o2, none⟩) ids.length d] w fun e w' => e = .returned (.bool (texB ids js)) ∧ Below w.heap.size w w' := by
  obtain ⟨L, hLe⟩ : ∃ L, ids.length = L := ⟨_, rfl⟩
  have hne : ∀ i, i < L → ids.getD i ByteArray.empty ≠ js.getD i ByteArray.empty → texB ids js = false := fun i hi e => by
    unfold texB
    rw [decide_eq_false_iff_not]
    intro h; rw [h] at e; exact e rfl
  have hall : (∀ i, i < L → ids.getD i ByteArray.empty = js.getD i ByteArray.empty) → texB ids js = true := fun h => by
    unfold texB
    rw [decide_eq_true_eq]
    apply List.ext_getElem (by omega)
    intro i k1 k2
    have := h i (by omega)
    simpa [List.getD, k1, k2] using this
  rw [hLe] at h1 h2 hm ⊢
  unfold maxLen at hm
  obtain ⟨E, hE⟩ : ∃ E, texB ids js = E := ⟨_, rfl⟩
  rw [hE] at hne hall ⊢
  replace h1 := Box.mk h1
  replace h2 := Box.mk h2
  replace hne := Box.mk hne
  replace hall := Box.mk hall
  have hB0 : Box (Below w.heap.size w w) := ⟨Below.refl _ _⟩
  have l1 := Box.mk hl1
  have l2 := Box.mk hl2
  clear hE hLe hL hl1 hl2
  go_enter Tryd.func26, Tryd.ntmps26
  go_wp2_with fail
  go_loopw [5] (fun q wr => ∃ i : Nat, i ≤ L ∧ q = .int .i64 (i : Int) ∧ Box (∀ j, j < i → ids.getD j ByteArray.empty = js.getD j ByteArray.empty) ∧ Box (Below w.heap.size w wr)) (fun q _ => L - (intOf q).toNat)
  case atStart => exact ⟨0, by omega, rfl, ⟨fun j hj => by omega⟩, hB0⟩
  case round =>
    clear hB0
    obtain ⟨i, hi, rfl, hA, hB⟩ := hrel
    by_cases hlt : i < L
    · have hx := (hB.out.cell (p := ⟨b1, o1 + i, none⟩) l1.out).trans (h1.out i hlt)
      have hy := (hB.out.cell (p := ⟨b2, o2 + i, none⟩) l2.out).trans (h2.out i hlt)
      have hnei := hne.out i hlt
      obtain ⟨x, hxe⟩ : ∃ x, ids.getD i ByteArray.empty = x := ⟨_, rfl⟩
      obtain ⟨y, hye⟩ : ∃ y, js.getD i ByteArray.empty = y := ⟨_, rfl⟩
      rw [hxe, hye] at hnei
      rw [hxe] at hx
      rw [hye] at hy
      have hii : (i : Int) < (L : Int) := by omega
      replace hnei := Box.mk hnei
      replace hxe := Box.mk hxe
      replace hye := Box.mk hye
      have heq : (x.toList == y.toList) = decide (x = y) := eq_toList x y
      by_cases hxy : x = y
      · rw [show decide (x = y) = true by simpa using hxy] at heq
        have hA2 : Box (∀ j, j < i + 1 → ids.getD j ByteArray.empty = js.getD j ByteArray.empty) := ⟨fun j hj => by
          by_cases e : j = i
          · subst e; rw [hxe.out, hye.out]; exact hxy
          · exact hA.out j (by omega)⟩
        have hq : (x.toList != y.toList) = false := by rw [bne, heq]; rfl
        clear hxy
        go_wp2_with fail
        go_quiet (fail)
        have hB2 : Box (Below w.heap.size w (wr.drewN nq)) := ⟨hB.out.trans (Drawn.below ⟨nq, rfl⟩)⟩
        clear hB hx hy hA
        go_wp2_with fail
        exact ⟨⟨i + 1, by omega, by go_num, hA2, hB2⟩, by simp [intOf]; omega⟩
      · rw [show decide (x = y) = false by simpa using hxy] at heq
        have hEf : Box (E = false) := ⟨hnei.out hxy⟩
        have hq : (x.toList != y.toList) = true := by rw [bne, heq]; rfl
        clear hxy
        go_wp2_with fail
        go_quiet (fail)
        have hB2 : Box (Below w.heap.size w (wr.drewN nq)) := ⟨hB.out.trans (Drawn.below ⟨nq, rfl⟩)⟩
        clear hB hx hy hA
        go_wp2_with fail
        go_ret
        exact ⟨by rw [hEf.out]; rfl, hB2.out⟩
    · obtain rfl : i = L := by omega
      have hEt : Box (E = true) := ⟨hall.out hA.out⟩
      go_wp2_with fail
      go_ret
      exact ⟨by rw [hEt.out]; rfl, hB.out⟩
theorem same_zero (a b : Option Addr) (c d : Nat) (w : World) :
    Calls Tryd.prog 26 #[.slice a 0 c, .slice b 0 d] w fun e w' => e = .returned (.bool true) ∧ w' = w := by
  go_enter Tryd.func26, Tryd.ntmps26
  go_wp2_with fail
  go_loopw [5] (fun q wr => q = .int .i64 0 ∧ wr = w) (fun _ _ => 0)
  case atStart => exact ⟨rfl, rfl⟩
  case round =>
    obtain ⟨rfl, rfl⟩ := hrel
    go_wp2_with fail
    go_ret
    exact ⟨rfl, rfl⟩
theorem same_any (v u : Value) (ids js : List ByteArray) (w : World) (hv : PartsAt w v ids) (hu : PartsAt w u js) (hm : ids.length ≤ maxLen) :
    Calls Tryd.prog 26 #[v, u] w fun e w' => e = .returned (.bool (texB ids js)) ∧ Below w.heap.size w w' := by
  obtain ⟨a, c, rfl, hh⟩ := hv.ex
  obtain ⟨b, d, rfl, kk⟩ := hu.ex
  by_cases hL : js.length = ids.length
  · by_cases h0 : 0 < ids.length
    · obtain ⟨b1, o1, rfl, hl1, hc1⟩ := hh h0
      obtain ⟨b2, o2, rfl, hl2, hc2⟩ := kk (by omega)
      rw [hL] at hc2 ⊢
      exact same_yes b1 o1 b2 o2 c d ids js w hl1 hl2 hL hc1 hc2 hm
    · obtain rfl : ids = [] := List.length_eq_zero_iff.1 (by omega)
      obtain rfl : js = [] := List.length_eq_zero_iff.1 hL
      refine (same_zero a b c d w).mono ?_
      rintro e w' ⟨he, rfl⟩
      exact ⟨by rw [he]; simp [texB], Below.refl _ _⟩
  · refine (same_no a b ids.length js.length c d w (fun e => hL e.symm)).mono ?_
    rintro e w' ⟨he, rfl⟩
    refine ⟨?_, Below.refl _ _⟩
    rw [he]
    have : texB ids js = false := by
      unfold texB
      rw [decide_eq_false_iff_not]
      intro h; rw [h] at hL; exact hL rfl
    rw [this]
end Go.Proofs.YtlkopllpadhnlaaDoor
