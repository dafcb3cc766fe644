/- Walks of tree.split, proven, climb, Included. | Walks of tree.Included and of the document's up. | Walk of the document's Included. -/
import Derived.Test.YtdomennhoopggaaDoorMTb
namespace Go.Proofs.YtdomennhoopggaaDoor
open Go Go.RowKit

theorem PA.cell {w : World} {a : Option Addr} {n c : Nat} {l : List ByteArray} (h : PA w a n c l) (i : Nat) (hi : i < n) : ∃ blk off, a = some ⟨blk, off, none⟩ ∧ blk < w.heap.size ∧ w.cell? ⟨blk, off + i, none⟩ = some (.string (l.getD i ByteArray.empty)) := by
  obtain ⟨blk, off, rfl, hl, hc⟩ := h.at_ (by omega)
  exact ⟨blk, off, rfl, hl, hc i hi⟩
theorem split_last (ps : List ByteArray) (n : Nat) (hn : ps.length = n) (h0 : 0 < n) : ps = ps.take (n - 1) ++ [ps.getD (n - 1) ByteArray.empty] := by
  have h := List.take_append_drop (n - 1) ps
  conv => lhs; rw [← h]
  congr 1
  rw [List.drop_eq_getElem_cons (by omega), List.drop_eq_nil_of_le (by omega)]
  simp [List.getD, show n - 1 < ps.length by omega]
set_option maxHeartbeats 800000 in
set_option maxRecDepth 100000 in
theorem split_any (n : Nat) (l : List ByteArray) (a : Option Addr) (c : Nat) (w : World) (hP : PA w a n c l) (h0 : 0 < n) :
    Calls Tryd.prog 42 #[.slice a n c] w fun e w' => e = .returned (.tuple #[.slice a ((n - 1 : Nat) : Nat) c, .string (l.getD (n - 1) ByteArray.empty)]) ∧ Below w.heap.size w w' := by
  have hcap := hP.cap
  have htop := hP.top
  obtain ⟨blk, off, rfl, hl, hc⟩ := hP.cell (n - 1) (by omega)
  obtain ⟨k, rfl⟩ : ∃ k, n = k + 1 := ⟨n - 1, by omega⟩
  rw [Nat.add_sub_cancel] at hc ⊢
  obtain ⟨x, hx⟩ : ∃ x, l.getD k ByteArray.empty = x := ⟨_, rfl⟩
  rw [hx] at hc ⊢
  have hc2 : ∀ w', Below w.heap.size w w' → w'.cell? ⟨blk, off + k, none⟩ = some (.string x) := fun w' hb => (hb.cell (p := ⟨blk, off + k, none⟩) hl).trans hc
  replace hc2 := Box.mk hc2
  clear hP hx hc
  go_enter Tryd.func42, Tryd.ntmps42
  go_wp2_with fail
  refine region_quiet (fun w' => Below w.heap.size w w') (by kernel_rfl) (by kernel_rfl) (dB _) ?_
  repeat (go_big_quiet_step (first | exact fun _ => rfl | rfl))
  refine quiet_val rfl (.string x) (fun w' hw' => by have h3 := hc2.out w' hw'; go_simp) ?_
  simp only [Act.put, List.setIfInBounds_toArray, List.set_cons_succ, List.set_cons_zero]
  repeat (go_big_quiet_step (first | exact fun _ => rfl | rfl))
  refine wpQuiet_nil ?_
  intro w7 hw7
  go_wp2_with fail
  go_returns
  exact ⟨rfl, hw7⟩
/-- What a check answers. -/
def errB (b : Bool) : Int := if b then 0 else 11
set_option maxHeartbeats 800000 in
set_option maxRecDepth 100000 in
theorem proven_any (b : Bool) (w : World) :
    Calls Tryd.prog 34 #[.bool b] w fun e w' => e = .returned (.int .i64 (errB b)) ∧ w' = w := by
  cases b
  · go_enter Tryd.func34, Tryd.ntmps34
    go_wp2_with fail
    go_ret
    exact ⟨rfl, rfl⟩
  · go_enter Tryd.func34, Tryd.ntmps34
    go_wp2_with fail
    go_ret
    exact ⟨rfl, rfl⟩
/-- What climb answers. -/
def Climbed (w : World) (h : ByteArray) (bs : List Bool) (ps : List ByteArray) (e : Ending) (w' : World) : Prop :=
  ∃ g b, e = .returned (.tuple #[.string g, .bool b]) ∧ (b = decide (ps.length = bs.length)) ∧ (ps.length = bs.length → g = goUp h bs ps) ∧ g.size ≤ 70000000000000 ∧ Below w.heap.size w w'
theorem climb_left {n i k p : Nat} {leaf x g : ByteArray} {ps : List ByteArray} {b : Bool} (hl : ps.length = p) (hp : 0 < p) (hx : ps.getD (p - 1) ByteArray.empty = x) (hs : sides i n = sides i k ++ [true])
    (hb : b = decide ((ps.take (p - 1)).length = (sides i k).length)) (hg : (ps.take (p - 1)).length = (sides i k).length → g = goUp leaf (sides i k) (ps.take (p - 1))) :
    (b = decide (ps.length = (sides i n).length)) ∧ (ps.length = (sides i n).length → nodeH g x = goUp leaf (sides i n) ps) := by
  have h1 : (ps.take (p - 1)).length = p - 1 := by simp; omega
  rw [h1] at hb hg
  rw [hs, List.length_append, List.length_singleton, hl]
  refine ⟨by rw [hb]; congr 1; apply propext; omega, fun h => ?_⟩
  rw [split_last ps p hl hp, goUp_snoc _ _ _ _ _ (by rw [h1]; omega), if_pos rfl, ← hg (by omega), hx]
theorem climb_right {n i m j p : Nat} {leaf x g : ByteArray} {ps : List ByteArray} {b : Bool} (hl : ps.length = p) (hp : 0 < p) (hx : ps.getD (p - 1) ByteArray.empty = x) (hs : sides i n = sides j m ++ [false])
    (hb : b = decide ((ps.take (p - 1)).length = (sides j m).length)) (hg : (ps.take (p - 1)).length = (sides j m).length → g = goUp leaf (sides j m) (ps.take (p - 1))) :
    (b = decide (ps.length = (sides i n).length)) ∧ (ps.length = (sides i n).length → nodeH x g = goUp leaf (sides i n) ps) := by
  have h1 : (ps.take (p - 1)).length = p - 1 := by simp; omega
  rw [h1] at hb hg
  rw [hs, List.length_append, List.length_singleton, hl]
  refine ⟨by rw [hb]; congr 1; apply propext; omega, fun h => ?_⟩
  rw [split_last ps p hl hp, goUp_snoc _ _ _ _ _ (by rw [h1]; omega), if_neg (by simp), ← hg (by omega), hx]
set_option maxHeartbeats 1600000 in
set_option maxRecDepth 100000 in
theorem climb_any (leaf : ByteArray) (hleaf : leaf.size ≤ 70000000000000) : ∀ (n : Nat) (ps : List ByteArray) (i p : Nat) (a : Option Addr) (c : Nat) (w : World), PA w a p c ps → KIs w → Fit ps → i < n → n ≤ 9223372036854775807 →
    Calls Tryd.prog 33 #[.string leaf, .int .i64 (i : Int), .int .i64 (n : Int), .slice a p c] w (Climbed w leaf (sides i n) ps) := by
  intro n
  induction n using Nat.strongRecOn with
  | ind n ih =>
    intro ps i p a c w hP hK hF hi hn63
    have hlen := hP.len
    rcases Nat.lt_or_ge n 2 with hn | hn
    · obtain rfl : n = 1 := by omega
      unfold Climbed
      rw [sides_one i 1 (by omega), hlen]
      have hd : decide (p = ([] : List Bool).length) = ((p : Int) == 0) := by rw [List.length_nil, Bool.eq_iff_iff, decide_eq_true_iff, beq_iff_eq]; omega
      have hg : leaf = goUp leaf [] ps := by cases ps <;> rfl
      rw [hd, ← hg]
      clear ih hP hK hF hlen hn hi hd hg
      go_enter Tryd.func33, Tryd.ntmps33
      go_wp2_with fail
      go_returns
      exact ⟨_, _, rfl, rfl, fun _ => rfl, hleaf, Below.refl _ _⟩
    · have hn1 : ((n : Int) == 1) = false := by simp; omega
      rcases Nat.eq_zero_or_pos p with h0 | h0
      · subst h0
        have hne : ¬ ps.length = (sides i n).length := by
          rw [hlen]
          by_cases hik : i < cutN n
          · rw [sides_left i n hn hik]; simp
          · rw [sides_right i n hn (by omega)]; simp
        have hE : ByteArray.empty.size ≤ 70000000000000 := by decide
        clear ih hP hK hF hlen hi
        go_enter Tryd.func33, Tryd.ntmps33
        go_wp2_with fail
        go_returns
        exact ⟨_, _, rfl, by simp [hne], fun h => absurd h hne, by decide, Below.refl _ _⟩
      · have hp0 : ((p : Int) == 0) = false := by simp; omega
        have hk := cutN_lt hn
        have hk0 := cutN_pos n
        have hC := cut_any n w hn hn63
        have hS := fun w' (hb : Below w.heap.size w w') => split_any p ps a c w' (hP.here hb) h0
        have hL := fun (hik : i < cutN n) w' (hb : Below w.heap.size w w') => ih (cutN n) hk (ps.take (p - 1)) i (p - 1) a c w' ((hP.here hb).take (by omega)) (hK.below hb hK.lt) (hF.take _) hik (by omega)
        have hR := fun (hik : cutN n ≤ i) w' (hb : Below w.heap.size w w') => ih (n - cutN n) (by omega) (ps.take (p - 1)) (i - cutN n) (p - 1) a c w' ((hP.here hb).take (by omega)) (hK.below hb hK.lt) (hF.take _) (by omega) (by omega)
        have hs1 := sides_left i n hn
        have hs2 := sides_right i n hn
        have hxs := hF.getD (p - 1)
        obtain ⟨x, hx⟩ : ∃ x, ps.getD (p - 1) ByteArray.empty = x := ⟨_, rfl⟩
        rw [hx] at hS hxs
        have hN := fun (g h : ByteArray) (hg : g.size ≤ 70000000000000) (hh : h.size ≤ 70000000000000) w' (hb : Below w.heap.size w w') => tnode_any g h w' (hK.below hb hK.lt) (by omega) (by omega)
        obtain ⟨k, hkk⟩ : ∃ k, cutN n = k := ⟨_, rfl⟩
        rw [hkk] at hk hk0 hC hL hR hs1 hs2
        clear hkk ih hF hP hK
        replace hN := Box.mk hN
        by_cases hik : i < k
        · have hik2 : (i : Int) < (k : Int) := by omega
          replace hL := hL hik
          have hfin := fun g b => climb_left (n := n) (i := i) (k := k) (p := p) (leaf := leaf) (g := g) (b := b) hlen h0 hx (hs1 hik)
          obtain ⟨bs, hbs⟩ : ∃ bs, sides i n = bs := ⟨_, rfl⟩
          rw [hbs] at hfin ⊢
          replace hfin := Box.mk hfin
          clear hR hs1 hs2 hbs
          go_enter Tryd.func33, Tryd.ntmps33
          go_wp2_with fail
          refine hC.mono ?_
          rintro e w3 ⟨rfl, rfl⟩
          clear hC
          replace hS := hS w3 (Below.refl _ _)
          go_wp2_with fail
          refine hS.mono ?_
          rintro e w4 ⟨rfl, hB4⟩
          clear hS
          replace hL := hL w4 hB4
          replace hB4 := Box.mk hB4
          go_wp2_with fail
          refine hL.mono ?_
          rintro e w5 ⟨g, b, rfl, hb, hg, hgs, hB5⟩
          replace hfin := Box.mk (hfin.out g b hb hg)
          replace hB5 := Box.mk (mono_bel hB4.out hB5 (Nat.le_refl _))
          have hN5 := hN.out g x hgs hxs w5 hB5.out
          clear hL hb hg hN hB4
          go_wp2_with fail
          refine hN5.mono ?_
          rintro e w6 ⟨rfl, hB6⟩
          replace hB6 := Box.mk (mono_bel hB5.out hB6 (Nat.le_refl _))
          clear hN5 hB5
          go_wp2_with fail
          go_returns
          exact ⟨_, _, rfl, hfin.out.1, hfin.out.2, by rw [nodeH_size]; decide, hB6.out⟩
        · have hik2 : ¬ (i : Int) < (k : Int) := by omega
          have hki : k ≤ i := by omega
          have hsub : (i : Int) - (k : Int) = ((i - k : Nat) : Int) := by omega
          have hsub2 : (n : Int) - (k : Int) = ((n - k : Nat) : Int) := by omega
          replace hR := hR hki
          rw [← hsub, ← hsub2] at hR
          have hfin := fun g b => climb_right (n := n) (i := i) (m := n - k) (j := i - k) (p := p) (leaf := leaf) (g := g) (b := b) hlen h0 hx (hs2 hki)
          obtain ⟨bs, hbs⟩ : ∃ bs, sides i n = bs := ⟨_, rfl⟩
          rw [hbs] at hfin ⊢
          replace hfin := Box.mk hfin
          clear hL hs1 hs2 hbs hsub hsub2 hki hik
          go_enter Tryd.func33, Tryd.ntmps33
          go_wp2_with fail
          refine hC.mono ?_
          rintro e w3 ⟨rfl, rfl⟩
          clear hC
          replace hS := hS w3 (Below.refl _ _)
          go_wp2_with fail
          refine hS.mono ?_
          rintro e w4 ⟨rfl, hB4⟩
          clear hS
          replace hR := hR w4 hB4
          replace hB4 := Box.mk hB4
          go_wp2_with fail
          refine hR.mono ?_
          rintro e w5 ⟨g, b, rfl, hb, hg, hgs, hB5⟩
          replace hfin := Box.mk (hfin.out g b hb hg)
          replace hB5 := Box.mk (mono_bel hB4.out hB5 (Nat.le_refl _))
          have hN5 := hN.out x g hxs hgs w5 hB5.out
          clear hR hb hg hN hB4
          go_wp2_with fail
          refine hN5.mono ?_
          rintro e w6 ⟨rfl, hB6⟩
          replace hB6 := Box.mk (mono_bel hB5.out hB6 (Nat.le_refl _))
          clear hN5 hB5
          go_wp2_with fail
          go_returns
          exact ⟨_, _, rfl, hfin.out.1, hfin.out.2, by rw [nodeH_size]; decide, hB6.out⟩
end Go.Proofs.YtdomennhoopggaaDoor

namespace Go.Proofs.YtdomennhoopggaaDoor
open Go Go.RowKit

/-- What the document's up answers. -/
def Upped (w : World) (h : ByteArray) (bs : List Bool) (ps : List ByteArray) (e : Ending) (w' : World) : Prop :=
  ∃ g a m c b, e = .returned (.tuple #[.string g, .slice a m c, .bool b]) ∧ b = decide (bs.length ≤ ps.length) ∧ (b = true → g = goUp h bs (ps.take bs.length)) ∧ PA w' a m c (if b then ps.drop bs.length else []) ∧ g.size ≤ 70000000000000 ∧ Below w.heap.size w w'
theorem pa_nil (w : World) : PA w none 0 0 [] := ⟨rfl, Nat.le_refl _, by omega, fun h => absurd h (Nat.lt_irrefl 0)⟩
theorem pa_none (w : World) (a : Option Addr) : PA w a 0 0 [] := ⟨rfl, Nat.le_refl _, by omega, fun h => absurd h (Nat.lt_irrefl 0)⟩
theorem up_step (leaf : ByteArray) (bs : List Bool) (d : Bool) (ps : List ByteArray) (h : bs.length < ps.length) :
    goUp leaf (bs ++ [d]) (ps.take (bs ++ [d]).length) = if d then nodeH (goUp leaf bs (ps.take bs.length)) ((ps.drop bs.length).getD 0 ByteArray.empty) else nodeH ((ps.drop bs.length).getD 0 ByteArray.empty) (goUp leaf bs (ps.take bs.length)) := by
  rw [List.length_append, List.length_singleton, List.take_succ_eq_append_getElem h, goUp_snoc _ _ _ _ _ (by simp; omega)]
  have : (ps.drop bs.length).getD 0 ByteArray.empty = ps[bs.length] := by simp [List.getD, h]
  rw [this]
set_option maxHeartbeats 3200000 in
set_option maxRecDepth 100000 in
theorem up_any (leaf : ByteArray) (hleaf : leaf.size ≤ 70000000000000) : ∀ (n : Nat) (ps : List ByteArray) (i p : Nat) (a : Option Addr) (c : Nat) (w : World), PA w a p c ps → Fit ps → i < n → n ≤ 9223372036854775807 →
    Calls Tryd.prog 35 #[.string leaf, .int .i64 (i : Int), .int .i64 (n : Int), .slice a p c] w (Upped w leaf (sides i n) ps) := by
  intro n
  induction n using Nat.strongRecOn with
  | ind n ih =>
    intro ps i p a c w hP hF hi hn63
    rcases Nat.lt_or_ge n 2 with hn | hn
    · obtain rfl : n = 1 := by omega
      rw [sides_one i 1 (by omega)]
      have hg : leaf = goUp leaf [] (ps.take 0) := by simp [goUp]
      replace hg := Box.mk hg
      clear ih hF hn hi
      go_enter Tryd.func35, Tryd.ntmps35
      go_wp2_with fail
      go_returns
      exact ⟨_, _, _, _, _, rfl, by simp, fun _ => hg.out, hP, hleaf, Below.refl _ _⟩
    · have hn1 : ((n : Int) == 1) = false := by simp; omega
      have hk := cutN_lt hn
      have hk0 := cutN_pos n
      have hC := power_any n w hn hn63
      have hL := fun (hik : i < cutN n) w' (hb : Below w.heap.size w w') => ih (cutN n) hk ps i p a c w' (hP.here hb) hF hik (by omega)
      have hR := fun (hik : cutN n ≤ i) w' (hb : Below w.heap.size w w') => ih (n - cutN n) (by omega) ps (i - cutN n) p a c w' (hP.here hb) hF (by omega) (by omega)
      have hs1 := sides_left i n hn
      have hs2 := sides_right i n hn
      obtain ⟨k, hkk⟩ : ∃ k, cutN n = k := ⟨_, rfl⟩
      rw [hkk] at hk hk0 hC hL hR hs1 hs2
      clear hkk ih hP
      replace hF := Box.mk hF
      by_cases hik : i < k
      · have hik2 : (i : Int) < (k : Int) := by omega
        replace hL := hL hik
        rw [hs1 hik]
        obtain ⟨bs, hbs⟩ : ∃ bs, sides i k = bs := ⟨_, rfl⟩
        rw [hbs] at hL ⊢
        clear hR hs1 hs2 hbs
        go_enter Tryd.func35, Tryd.ntmps35
        go_wp2_with fail
        refine hC.mono ?_
        rintro e w3 ⟨rfl, rfl⟩
        clear hC
        replace hL := hL w3 (Below.refl _ _)
        go_wp2_with fail
        refine hL.mono ?_
        rintro e w4 ⟨g, a4, m4, c4, b, rfl, hb, hg, hP4, hgs, hB4⟩
        clear hL
        replace hB4 := Box.mk hB4
        cases b with
        | false =>
          have hfalse : Box (false = decide ((bs ++ [true]).length ≤ ps.length)) := ⟨by simp at hb ⊢; omega⟩
          clear hb hg hP4 hgs
          go_wp2_with fail
          go_returns
          exact ⟨_, _, _, _, _, rfl, hfalse.out, (fun h => by cases h), pa_nil _, by decide, hB4.out⟩
        | true =>
          rw [if_pos rfl] at hP4
          have hl4 := hP4.len
          rw [List.length_drop] at hl4
          have hle : bs.length ≤ ps.length := by simpa using hb
          rcases Nat.eq_zero_or_pos m4 with h0 | h0
          · subst h0
            have hfalse : Box (false = decide ((bs ++ [true]).length ≤ ps.length)) := ⟨by simp; omega⟩
            clear hb hg hP4 hgs hle hl4
            go_wp2_with fail
            go_returns
            exact ⟨_, _, _, _, _, rfl, hfalse.out, (fun h => by cases h), pa_nil _, by decide, hB4.out⟩
          · have hm0 : ((m4 : Int) == 0) = false := by simp; omega
            have htrue : Box (true = decide ((bs ++ [true]).length ≤ ps.length)) := ⟨by simp; omega⟩
            have hus := up_step leaf bs true ps (by omega)
            rw [if_pos rfl, ← hg rfl] at hus
            have hcap := hP4.cap
            have htop := hP4.top
            obtain ⟨blk, off, rfl, hlt, hcell⟩ := hP4.cell 0 h0
            rw [Nat.add_zero] at hcell
            have hxs := (hF.out.drop bs.length).getD 0
            obtain ⟨x, hx⟩ : ∃ x, (ps.drop bs.length).getD 0 ByteArray.empty = x := ⟨_, rfl⟩
            rw [hx] at hcell hus hxs
            have hN := fun w' => rnode_any g x w' hgs hxs
            have hc2 : ∀ w', Below w4.heap.size w4 w' → w'.cell? ⟨blk, off, none⟩ = some (.string x) := fun w' hb => (hb.cell (p := ⟨blk, off, none⟩) hlt).trans hcell
            replace hc2 := Box.mk hc2
            have hPd : ∀ w', Below w4.heap.size w4 w' → PA w' (some ⟨blk, off + 1, none⟩) (m4 - 1) (c4 - 1) (ps.drop (bs ++ [true]).length) := fun w' hb => by
              have := (hP4.here hb).drop (k := 1) (by omega)
              rw [List.drop_drop] at this
              rw [List.length_append, List.length_singleton]; exact this
            replace hPd := Box.mk hPd
            replace hus := Box.mk hus
            clear hb hg hle hl4 hx hcell hgs hxs hP4
            by_cases hc1 : c4 = 1
            · subst hc1
              obtain rfl : m4 = 1 := by omega
              have hP0 : Box (ps.drop (bs ++ [true]).length = []) := ⟨List.length_eq_zero_iff.1 ((hPd.out w4 (Below.refl _ _)).len)⟩
              go_wp2_with fail
              refine region_quiet (fun w' => Below w4.heap.size w4 w') (by kernel_rfl) (by kernel_rfl) (dB _) ?_
              repeat (go_big_quiet_step (first | exact fun _ => rfl | rfl))
              refine quiet_val rfl (.string x) (fun w' hw' => by have h3 := hc2.out w' hw'; go_simp) ?_
              simp only [Act.put, List.setIfInBounds_toArray, List.set_cons_succ, List.set_cons_zero]
              refine quiet_call rfl (.string (nodeH g x)) (fun w' hw' => bel_call (hN w') hw') (fun w' _ => by go_simp) ?_
              simp only [Act.put, List.setIfInBounds_toArray, List.set_cons_succ, List.set_cons_zero]
              repeat (go_big_quiet_step (first | exact fun _ => rfl | rfl))
              refine wpQuiet_nil ?_
              intro w7 hw7
              clear hN hc2
              go_wp2_with fail
              go_returns
              exact ⟨_, _, _, _, _, rfl, htrue.out, fun _ => hus.out.symm, by rw [if_pos rfl, hP0.out]; exact pa_none _ _, by rw [nodeH_size]; decide, mono_bel hB4.out hw7 (Nat.le_refl _)⟩
            · go_wp2_with fail
              refine region_quiet (fun w' => Below w4.heap.size w4 w') (by kernel_rfl) (by kernel_rfl) (dB _) ?_
              repeat (go_big_quiet_step (first | exact fun _ => rfl | rfl))
              refine quiet_val rfl (.string x) (fun w' hw' => by have h3 := hc2.out w' hw'; go_simp) ?_
              simp only [Act.put, List.setIfInBounds_toArray, List.set_cons_succ, List.set_cons_zero]
              refine quiet_call rfl (.string (nodeH g x)) (fun w' hw' => bel_call (hN w') hw') (fun w' _ => by go_simp) ?_
              simp only [Act.put, List.setIfInBounds_toArray, List.set_cons_succ, List.set_cons_zero]
              repeat (go_big_quiet_step (first | exact fun _ => rfl | rfl))
              refine wpQuiet_nil ?_
              intro w7 hw7
              clear hN hc2
              go_wp2_with fail
              go_returns
              exact ⟨_, _, _, _, _, rfl, htrue.out, fun _ => hus.out.symm, by rw [if_pos rfl]; exact hPd.out w7 hw7, by rw [nodeH_size]; decide, mono_bel hB4.out hw7 (Nat.le_refl _)⟩
      · have hik2 : ¬ (i : Int) < (k : Int) := by omega
        have hki : k ≤ i := by omega
        have hsub : (i : Int) - (k : Int) = ((i - k : Nat) : Int) := by omega
        have hsub2 : (n : Int) - (k : Int) = ((n - k : Nat) : Int) := by omega
        replace hR := hR hki
        rw [hs2 hki]
        obtain ⟨bs, hbs⟩ : ∃ bs, sides (i - k) (n - k) = bs := ⟨_, rfl⟩
        rw [hbs] at hR ⊢
        rw [← hsub, ← hsub2] at hR
        clear hL hs1 hs2 hbs hsub hsub2 hki hik
        go_enter Tryd.func35, Tryd.ntmps35
        go_wp2_with fail
        refine hC.mono ?_
        rintro e w3 ⟨rfl, rfl⟩
        clear hC
        replace hR := hR w3 (Below.refl _ _)
        go_wp2_with fail
        refine hR.mono ?_
        rintro e w4 ⟨g, a4, m4, c4, b, rfl, hb, hg, hP4, hgs, hB4⟩
        clear hR
        replace hB4 := Box.mk hB4
        cases b with
        | false =>
          have hfalse : Box (false = decide ((bs ++ [false]).length ≤ ps.length)) := ⟨by simp at hb ⊢; omega⟩
          clear hb hg hP4 hgs
          go_wp2_with fail
          go_returns
          exact ⟨_, _, _, _, _, rfl, hfalse.out, (fun h => by cases h), pa_nil _, by decide, hB4.out⟩
        | true =>
          rw [if_pos rfl] at hP4
          have hl4 := hP4.len
          rw [List.length_drop] at hl4
          have hle : bs.length ≤ ps.length := by simpa using hb
          rcases Nat.eq_zero_or_pos m4 with h0 | h0
          · subst h0
            have hfalse : Box (false = decide ((bs ++ [false]).length ≤ ps.length)) := ⟨by simp; omega⟩
            clear hb hg hP4 hgs hle hl4
            go_wp2_with fail
            go_returns
            exact ⟨_, _, _, _, _, rfl, hfalse.out, (fun h => by cases h), pa_nil _, by decide, hB4.out⟩
          · have hm0 : ((m4 : Int) == 0) = false := by simp; omega
            have htrue : Box (true = decide ((bs ++ [false]).length ≤ ps.length)) := ⟨by simp; omega⟩
            have hus := up_step leaf bs false ps (by omega)
            rw [if_neg (by simp), ← hg rfl] at hus
            have hcap := hP4.cap
            have htop := hP4.top
            obtain ⟨blk, off, rfl, hlt, hcell⟩ := hP4.cell 0 h0
            rw [Nat.add_zero] at hcell
            have hxs := (hF.out.drop bs.length).getD 0
            obtain ⟨x, hx⟩ : ∃ x, (ps.drop bs.length).getD 0 ByteArray.empty = x := ⟨_, rfl⟩
            rw [hx] at hcell hus hxs
            have hN := fun w' => rnode_any x g w' hxs hgs
            have hc2 : ∀ w', Below w4.heap.size w4 w' → w'.cell? ⟨blk, off, none⟩ = some (.string x) := fun w' hb => (hb.cell (p := ⟨blk, off, none⟩) hlt).trans hcell
            replace hc2 := Box.mk hc2
            have hPd : ∀ w', Below w4.heap.size w4 w' → PA w' (some ⟨blk, off + 1, none⟩) (m4 - 1) (c4 - 1) (ps.drop (bs ++ [false]).length) := fun w' hb => by
              have := (hP4.here hb).drop (k := 1) (by omega)
              rw [List.drop_drop] at this
              rw [List.length_append, List.length_singleton]; exact this
            replace hPd := Box.mk hPd
            replace hus := Box.mk hus
            clear hb hg hle hl4 hx hcell hgs hxs hP4
            by_cases hc1 : c4 = 1
            · subst hc1
              obtain rfl : m4 = 1 := by omega
              have hP0 : Box (ps.drop (bs ++ [false]).length = []) := ⟨List.length_eq_zero_iff.1 ((hPd.out w4 (Below.refl _ _)).len)⟩
              go_wp2_with fail
              refine region_quiet (fun w' => Below w4.heap.size w4 w') (by kernel_rfl) (by kernel_rfl) (dB _) ?_
              repeat (go_big_quiet_step (first | exact fun _ => rfl | rfl))
              refine quiet_val rfl (.string x) (fun w' hw' => by have h3 := hc2.out w' hw'; go_simp) ?_
              simp only [Act.put, List.setIfInBounds_toArray, List.set_cons_succ, List.set_cons_zero]
              repeat (go_big_quiet_step (first | exact fun _ => rfl | rfl))
              refine quiet_call rfl (.string (nodeH x g)) (fun w' hw' => bel_call (hN w') hw') (fun w' _ => by go_simp) ?_
              simp only [Act.put, List.setIfInBounds_toArray, List.set_cons_succ, List.set_cons_zero]
              repeat (go_big_quiet_step (first | exact fun _ => rfl | rfl))
              refine wpQuiet_nil ?_
              intro w7 hw7
              clear hN hc2
              go_wp2_with fail
              go_returns
              exact ⟨_, _, _, _, _, rfl, htrue.out, fun _ => hus.out.symm, by rw [if_pos rfl, hP0.out]; exact pa_none _ _, by rw [nodeH_size]; decide, mono_bel hB4.out hw7 (Nat.le_refl _)⟩
            · go_wp2_with fail
              refine region_quiet (fun w' => Below w4.heap.size w4 w') (by kernel_rfl) (by kernel_rfl) (dB _) ?_
              repeat (go_big_quiet_step (first | exact fun _ => rfl | rfl))
              refine quiet_val rfl (.string x) (fun w' hw' => by have h3 := hc2.out w' hw'; go_simp) ?_
              simp only [Act.put, List.setIfInBounds_toArray, List.set_cons_succ, List.set_cons_zero]
              repeat (go_big_quiet_step (first | exact fun _ => rfl | rfl))
              refine quiet_call rfl (.string (nodeH x g)) (fun w' hw' => bel_call (hN w') hw') (fun w' _ => by go_simp) ?_
              simp only [Act.put, List.setIfInBounds_toArray, List.set_cons_succ, List.set_cons_zero]
              repeat (go_big_quiet_step (first | exact fun _ => rfl | rfl))
              refine wpQuiet_nil ?_
              intro w7 hw7
              clear hN hc2
              go_wp2_with fail
              go_returns
              exact ⟨_, _, _, _, _, rfl, htrue.out, fun _ => hus.out.symm, by rw [if_pos rfl]; exact hPd.out w7 hw7, by rw [nodeH_size]; decide, mono_bel hB4.out hw7 (Nat.le_refl _)⟩
/-- What Included answers. -/
def incdE (leaf : ByteArray) (i n : Int) (ps : List ByteArray) (root : ByteArray) : Int :=
  if 0 ≤ i ∧ i < n then errB (decide (ps.length = (sides i.toNat n.toNat).length ∧ goUp leaf (sides i.toNat n.toNat) ps = root)) else 1
theorem ba_ext {a b : ByteArray} (h : a.data.toList = b.data.toList) : a = b := ByteArray.ext (Array.ext' h)
theorem eq_toList (a b : ByteArray) : (a.toList == b.toList) = decide (a = b) := by
  rw [ByteArray.toList_eq, ByteArray.toList_eq, Bool.eq_iff_iff]
  simp only [beq_iff_eq, decide_eq_true_eq]
  exact ⟨ba_ext, fun h => by rw [h]⟩
set_option maxHeartbeats 1600000 in
set_option maxRecDepth 100000 in
theorem included_any (leaf root : ByteArray) (i n : Int) (ps : List ByteArray) (p : Nat) (a : Option Addr) (c : Nat) (w : World) (hP : PA w a p c ps) (hK : KIs w) (hF : Fit ps) (hleaf : leaf.size ≤ 70000000000000) (hn63 : n ≤ 9223372036854775807) :
    Calls Tryd.prog 21 #[.string leaf, .int .i64 i, .int .i64 n, .slice a p c, .string root] w fun e w' => e = .returned (.int .i64 (incdE leaf i n ps root)) ∧ Below w.heap.size w w' := by
  unfold incdE
  by_cases h : 0 ≤ i ∧ i < n
  · rw [if_pos h]
    obtain ⟨i, rfl⟩ : ∃ k : Nat, i = k := ⟨i.toNat, by omega⟩
    obtain ⟨n, rfl⟩ : ∃ k : Nat, n = k := ⟨n.toNat, by omega⟩
    have hC := climb_any leaf hleaf n ps i p a c w hP hK hF (by omega) (by omega)
    rw [Int.toNat_natCast, Int.toNat_natCast]
    obtain ⟨bs, hbs⟩ : ∃ bs, sides i n = bs := ⟨_, rfl⟩
    rw [hbs] at hC ⊢
    have h1 : ¬ ((i : Int) < 0) := by omega
    have h2 : ¬ ((i : Int) ≥ (n : Int)) := by omega
    clear hP hK hF hbs hleaf h
    go_enter Tryd.func21, Tryd.ntmps21
    go_wp2_with fail
    refine hC.mono ?_
    rintro e w5 ⟨g, b, rfl, hb, hg, hgs, hB5⟩
    clear hC hgs
    have heq : (g.toList == root.toList) = decide (g = root) := eq_toList g root
    obtain ⟨E, hE⟩ : ∃ E, decide (g = root) = E := ⟨_, rfl⟩
    rw [hE] at heq
    replace hB5 := Box.mk hB5
    have hP := fun b => proven_any b w5
    cases b with
    | true =>
      have hl : ps.length = bs.length := by simpa using hb
      have hfin : Box (E = decide (ps.length = bs.length ∧ goUp leaf bs ps = root)) := ⟨by rw [← hE, hg hl]; simp [hl]⟩
      clear hb hg hl hE
      go_wp2_with fail
      refine (hP E).mono ?_
      rintro e w6 ⟨rfl, rfl⟩
      clear hP heq
      go_wp2_with fail
      go_ret
      exact ⟨by rw [← hfin.out]; rfl, hB5.out⟩
    | false =>
      have hl : ¬ ps.length = bs.length := by simpa using hb
      have hfin : Box (false = decide (ps.length = bs.length ∧ goUp leaf bs ps = root)) := ⟨by simp [hl]⟩
      clear hb hg hl hE heq
      go_wp2_with fail
      refine (hP false).mono ?_
      rintro e w6 ⟨rfl, rfl⟩
      clear hP
      go_wp2_with fail
      go_ret
      exact ⟨by rw [← hfin.out]; rfl, hB5.out⟩
  · rw [if_neg h]
    clear hP hK hF hleaf
    by_cases h0 : i < 0
    · go_enter Tryd.func21, Tryd.ntmps21
      go_wp2_with fail
      go_ret
      exact ⟨rfl, Below.refl _ _⟩
    · have h1 : i ≥ n := by omega
      go_enter Tryd.func21, Tryd.ntmps21
      go_wp2_with fail
      go_ret
      exact ⟨rfl, Below.refl _ _⟩
end Go.Proofs.YtdomennhoopggaaDoor

namespace Go.Proofs.YtdomennhoopggaaDoor
open Go Go.RowKit

set_option maxHeartbeats 1600000 in
set_option maxRecDepth 100000 in
theorem rincluded_any (leaf root : ByteArray) (i n : Int) (ps : List ByteArray) (p : Nat) (a : Option Addr) (c : Nat) (w : World) (hP : PA w a p c ps) (hF : Fit ps) (hleaf : leaf.size ≤ 70000000000000) (hn63 : n ≤ 9223372036854775807) :
    Calls Tryd.prog 22 #[.string leaf, .int .i64 i, .int .i64 n, .slice a p c, .string root] w fun e w' => e = .returned (.int .i64 (incdE leaf i n ps root)) ∧ Below w.heap.size w w' := by
  unfold incdE
  by_cases h : 0 ≤ i ∧ i < n
  · rw [if_pos h]
    obtain ⟨i, rfl⟩ : ∃ k : Nat, i = k := ⟨i.toNat, by omega⟩
    obtain ⟨n, rfl⟩ : ∃ k : Nat, n = k := ⟨n.toNat, by omega⟩
    have hC := up_any leaf hleaf n ps i p a c w hP hF (by omega) (by omega)
    rw [Int.toNat_natCast, Int.toNat_natCast]
    obtain ⟨bs, hbs⟩ : ∃ bs, sides i n = bs := ⟨_, rfl⟩
    rw [hbs] at hC ⊢
    have h1 : ¬ ((i : Int) < 0) := by omega
    have h2 : ¬ ((i : Int) ≥ (n : Int)) := by omega
    clear hP hF hbs hleaf h
    go_enter Tryd.func22, Tryd.ntmps22
    go_wp2_with fail
    refine hC.mono ?_
    rintro e w5 ⟨g, a5, m5, c5, b, rfl, hb, hg, hP5, hgs, hB5⟩
    clear hC hgs
    have heq : (g.toList == root.toList) = decide (g = root) := eq_toList g root
    obtain ⟨E, hE⟩ : ∃ E, decide (g = root) = E := ⟨_, rfl⟩
    rw [hE] at heq
    have hl5 := hP5.len
    clear hP5
    replace hB5 := Box.mk hB5
    cases b with
    | true =>
      have hle : bs.length ≤ ps.length := by simpa using hb
      rw [if_pos rfl, List.length_drop] at hl5
      rcases Nat.eq_zero_or_pos m5 with h0 | h0
      · subst h0
        have hl : ps.length = bs.length := by omega
        have hfin : Box (errB (decide (ps.length = bs.length ∧ goUp leaf bs ps = root)) = errB E) := ⟨by rw [← hE, hg rfl, List.take_of_length_le (by omega)]; simp [hl]⟩
        clear hb hg hE hl hl5 hle
        cases E with
        | true =>
          go_wp2_with fail
          go_ret
          exact ⟨by rw [hfin.out]; rfl, hB5.out⟩
        | false =>
          go_wp2_with fail
          go_ret
          exact ⟨by rw [hfin.out]; rfl, hB5.out⟩
      · have hl : ¬ ps.length = bs.length := by omega
        have hfin : Box (errB (decide (ps.length = bs.length ∧ goUp leaf bs ps = root)) = 11) := ⟨by simp [hl, errB]⟩
        clear hb hg hE hl hl5 hle heq
        have hgt : (m5 : Int) > 0 := by omega
        go_wp2_with fail
        go_ret
        exact ⟨by rw [hfin.out]; rfl, hB5.out⟩
    | false =>
      have hl : ¬ ps.length = bs.length := by have : ¬ bs.length ≤ ps.length := by simpa using hb
                                              omega
      have hfin : Box (errB (decide (ps.length = bs.length ∧ goUp leaf bs ps = root)) = 11) := ⟨by simp [hl, errB]⟩
      clear hb hg hE hl hl5 heq
      go_wp2_with fail
      go_ret
      exact ⟨by rw [hfin.out]; rfl, hB5.out⟩
  · rw [if_neg h]
    clear hP hF hleaf
    by_cases h0 : i < 0
    · go_enter Tryd.func22, Tryd.ntmps22
      go_wp2_with fail
      go_ret
      exact ⟨rfl, Below.refl _ _⟩
    · have h1 : i ≥ n := by omega
      go_enter Tryd.func22, Tryd.ntmps22
      go_wp2_with fail
      go_ret
      exact ⟨rfl, Below.refl _ _⟩
end Go.Proofs.YtdomennhoopggaaDoor
