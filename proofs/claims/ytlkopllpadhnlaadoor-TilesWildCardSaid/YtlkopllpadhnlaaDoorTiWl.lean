/- TilesWild: a source that says anything; the law. -/
import Derived.Test.YtlkopllpadhnlaaDoorMUe
import Derived.Test.YtlkopllpadhnlaaDoorTiV
namespace Go.Proofs.YtlkopllpadhnlaaDoor
open Go Go.RowKit

/-- A source that says anything, in block g; its texts came in, they stand below B. -/
structure WildAt (B : Nat) (a : Option Addr) (n c : Nat) (ps : List ByteArray) (g : Nat) (w : World) (F : Nat → Prop) : Prop where
  blk : Pk.Blk w g [.slice a n c] 61
  pa : PA w a n c ps
  foot : ∀ k, F k ↔ k = g
  gB : B ≤ g
  low : ∀ ad, a = some ad → 0 < n → ad.block < B
theorem PA.chg0 {T : Nat → Prop} {w w' : World} {a : Option Addr} {n c : Nat} {l : List ByteArray} (h : PA w a n c l) (hc : Pk.Chg T w w') (hT : ∀ ad, a = some ad → 0 < n → ¬ T ad.block) : PA w' a n c l :=
  ⟨h.len, h.cap, h.top, fun h0 => by
    obtain ⟨blk, off, rfl, hl, hcl⟩ := h.at_ h0
    refine ⟨blk, off, rfl, Nat.lt_of_lt_of_le hl hc.size, fun i hi => ?_⟩
    have hb := hc.block blk hl (hT _ rfl h0)
    unfold World.cell?
    have := hcl i hi
    unfold World.cell? at this
    simp only at this ⊢
    rw [hb]; exact this⟩
theorem WildAt.chg {B : Nat} {a : Option Addr} {n c : Nat} {ps : List ByteArray} {g : Nat} {w w' : World} {F T : Nat → Prop} (h : WildAt B a n c ps g w F) (hc : Pk.Chg T w w') (hF : ∀ k, F k → ¬ T k) (hT : ∀ k, T k → B ≤ k) : WildAt B a n c ps g w' F :=
  ⟨hc.blk h.blk (hF g ((h.foot g).2 rfl)), h.pa.chg0 hc fun ad e h0 ht => by have := h.low ad e h0; have := hT _ ht; omega, h.foot, h.gB, h.low⟩
theorem WildAt.here {B : Nat} {a : Option Addr} {n c : Nat} {ps : List ByteArray} {g : Nat} {w w' : World} {F : Nat → Prop} (h : WildAt B a n c ps g w F) (hb : Below w.heap.size w w') : WildAt B a n c ps g w' F :=
  h.chg (Pk.Chg.of_below hb) (fun k hk e => by have := (h.foot k).1 hk; have := Pk.Blk.lt h.blk; omega) fun k hk => Nat.le_trans h.gB (Nat.le_trans (Nat.le_of_lt (Pk.Blk.lt h.blk)) hk)
def wX (ps : List ByteArray) (p : ByteArray) : ByteArray := if ps.length = 0 then p else ps.getD (p.size % ps.length) ByteArray.empty
set_option maxHeartbeats 1600000 in
set_option maxRecDepth 100000 in
theorem wildf_any (B : Nat) (a : Option Addr) (n c : Nat) (ps : List ByteArray) (g : Nat) (w : World) (F : Nat → Prop) (p : ByteArray) (h : WildAt B a n c ps g w F) (hp : p.size ≤ 100) :
    Calls Tryd.prog 138 #[.pointer (some ⟨g, 0, none⟩), .string p] w fun e w' => e = .returned (.tuple #[.string (wX ps p), .int .i64 0]) ∧ Below w.heap.size w w' := by
  have c0 := h.blk.cell 0
  simp only [List.getElem?_cons_zero] at c0
  have hlen := h.pa.len
  have hcap := h.pa.cap
  have htop := h.pa.top
  have hX : wX ps p = if n = 0 then p else ps.getD (p.size % n) ByteArray.empty := by unfold wX; rw [hlen]
  obtain ⟨x, hx⟩ : ∃ x, wX ps p = x := ⟨_, rfl⟩
  rw [hx] at hX ⊢
  by_cases h0 : n = 0
  · subst h0
    rw [if_pos rfl] at hX
    subst hX
    clear h hx hlen hcap htop
    go_enter Tryd.func138, Tryd.ntmps138
    go_wp2_with fail
    go_returns
    exact ⟨rfl, Below.refl _ _⟩
  · rw [if_neg h0] at hX
    obtain ⟨blk, off, rfl, hbl, hcl⟩ := h.pa.at_ (by omega)
    have hml : p.size % n < n := Nat.mod_lt _ (by omega)
    have e1 := hcl (p.size % n) hml
    rw [← hX] at e1
    obtain ⟨m, hm⟩ : ∃ m, p.size % n = m := ⟨_, rfl⟩
    rw [hm] at e1 hml
    have hm1 : (p.size : Int) % (n : Int) = (m : Int) := by rw [← hm]; rfl
    have hm2 : (p.size : Int).tmod (n : Int) = (m : Int) := by rw [← hm]; rfl
    have hne : ((n : Int) == 0) = false := by simpa using h0
    have hgl := Pk.Blk.lt h.blk
    clear h hx hX hcl hlen hm
    go_enter Tryd.func138, Tryd.ntmps138
    go_wp2_with fail
    go_quiet (fail)
    go_wp2_with fail
    go_returns
    exact ⟨rfl, Drawn.below ⟨nq, rfl⟩⟩
theorem wX_size {ps : List ByteArray} (hz : ∀ s ∈ ps, s.size ≤ 140737488351232) (p : ByteArray) (hp : p.size ≤ 100) : (wX ps p).size ≤ 140737488355328000 := by
  unfold wX
  split
  · omega
  · next h =>
    have hl : p.size % ps.length < ps.length := Nat.mod_lt _ (by omega)
    have := hz (ps.getD (p.size % ps.length) ByteArray.empty) (by simp [List.getD, hl])
    omega
/-- A source that says anything, as a source. -/
def wildS (B : Nat) (a : Option Addr) (n c : Nat) (ps : List ByteArray) (g : Nat) (hz : ∀ s ∈ ps, s.size ≤ 140737488351232) : Src B where
  sv := .iface 59 (.pointer (some ⟨g, 0, none⟩))
  iface := ⟨_, _, rfl⟩
  ans t := askT (wX ps (tlp t), 0) t
  I w F _ := WildAt B a n c ps g w F
  chg h hc hF hT := h.chg hc hF hT
  sz h := Nat.le_trans h.gB (Nat.le_of_lt (Pk.Blk.lt h.blk))
  lt h k hk := by
    have := (h.foot k).1 hk
    have := Pk.Blk.lt h.blk
    have := h.gB
    omega
  size t h := askT_size _ t h
  none t h := askT_none _ t h
  ask w F A t hL hB ht hA h :=
    askW_any (fun w F => WildAt B a n c ps g w F) (fun w F => WildAt B a n c ps g w F) (fun _ _ _ h hb => h.here hb) (fun _ _ _ h hb => h.here hb) B g (wX ps (tlp t), 0) t
      (fun w F hL hB h => (wildf_any B a n c ps g w F (tlp t) h (tlp_size ht)).mono fun e w' h2 => ⟨h2.1, F, h.here h2.2, (Pk.Chg.of_below h2.2).mono fun i hi e => absurd hi (by omega), fun k hk => .inl hk⟩) w F hL hB ht h (fun k hk => by
        have := (h.foot k).1 hk
        have := Pk.Blk.lt h.blk
        have := h.gB
        omega) (wX_size hz _ (tlp_size ht))
/-- The law's source, what stands below. -/
structure WS (w0 : World) (a : Option Addr) (n c : Nat) (ps : List ByteArray) (g : Nat) (w : World) : Prop where
  ex : ∃ F, WildAt w0.heap.size a n c ps g w F
  ld : Ld w0.heap.size w
  bel : Below w0.heap.size w0 w
theorem WS.here {w0 : World} {a : Option Addr} {n c : Nat} {ps : List ByteArray} {g : Nat} {w w' : World} (h : WS w0 a n c ps g w) (hb : Below w.heap.size w w') : WS w0 a n c ps g w' := by
  obtain ⟨F, h1⟩ := h.ex
  exact ⟨⟨F, h1.here hb⟩, h.ld.here hb h.bel.size, mono_bel h.bel hb (Nat.le_refl _)⟩
theorem WS.sn {w0 : World} {a : Option Addr} {n c : Nat} {ps : List ByteArray} {g : Nat} {w w' : World} {hz : ∀ s ∈ ps, s.size ≤ 140737488351232} {F Fs' : Nat → Prop} {k : Nat} {A : List Tl} (h : WS w0 a n c ps g w) (hF : WildAt w0.heap.size a n c ps g w F) (hS : SN (wildS w0.heap.size a n c ps g hz) k [] F w A Fs' w') : WS w0 a n c ps g w' := by
  have hbel : Below w0.heap.size w0 w' := h.bel.trans (hS.chg.below h.bel.size fun i hi => by rw [(hF.foot i).1 hi]; exact hF.gB)
  exact ⟨⟨Fs', hS.src⟩, h.ld.below (hS.chg.below h.bel.size fun i hi => by rw [(hF.foot i).1 hi]; exact hF.gB), hbel⟩
/-- A call that answers two values. -/
def TwoT (w0 : World) (a : Option Addr) (n c : Nat) (ps : List ByteArray) (g : Nat) (e : Ending) (w' : World) : Prop := ∃ x y, e = .returned (.tuple #[x, y]) ∧ WS w0 a n c ps g w'
section
variable {w0 : World} {a : Option Addr} {n c : Nat} {ps : List ByteArray} {g : Nat}
theorem wroot (hz : ∀ s ∈ ps, s.size ≤ 140737488351232) (z : Int) (w : World) (h : WS w0 a n c ps g w) :
    Calls Tryd.prog 20 #[.iface 59 (.pointer (some ⟨g, 0, none⟩)), .int .i64 z] w (TwoT w0 a n c ps g) := by
  obtain ⟨F, hF⟩ := h.ex
  rcases Int.lt_or_le z 0 with h0 | h0
  · exact (troot_bad (wildS w0.heap.size a n c ps g hz) z w (.inl h0)).mono fun e w' he => ⟨_, _, he.1, he.2 ▸ h⟩
  · rcases Int.lt_or_le 1024 z with h1 | h1
    · exact (troot_bad (wildS w0.heap.size a n c ps g hz) z w (.inr h1)).mono fun e w' he => ⟨_, _, he.1, he.2 ▸ h⟩
    · obtain ⟨k, rfl⟩ : ∃ k : Nat, z = k := ⟨z.toNat, by omega⟩
      rcases Nat.eq_zero_or_pos k with h2 | h2
      · subst h2
        exact (troot_zero (wildS w0.heap.size a n c ps g hz) w h.ld.kis).mono fun e w' he => ⟨_, _, he.1, h.here he.2⟩
      · refine (troot_any (wildS w0.heap.size a n c ps g hz) k [] F w hF h.ld h.bel.size h2 (by omega) (by simp)).mono fun e w' => ?_
        rintro ⟨A', Fs', r, rfl, hS, _, _⟩
        exact ⟨_, _, rfl, h.sn hF hS⟩
theorem winc (hz : ∀ s ∈ ps, s.size ≤ 140737488351232) (z i : Int) (w : World) (h : WS w0 a n c ps g w) :
    Calls Tryd.prog 21 #[.iface 59 (.pointer (some ⟨g, 0, none⟩)), .int .i64 z, .int .i64 i] w (TwoT w0 a n c ps g) := by
  obtain ⟨F, hF⟩ := h.ex
  by_cases hb : z < 0 ∨ 1024 < z ∨ i < 0 ∨ z ≤ i
  · exact (tinc_bad (wildS w0.heap.size a n c ps g hz) z i w hb).mono fun e w' he => ⟨_, _, he.1, he.2 ▸ h⟩
  · obtain ⟨k, rfl⟩ : ∃ k : Nat, z = k := ⟨z.toNat, by omega⟩
    obtain ⟨j, rfl⟩ : ∃ j : Nat, i = j := ⟨i.toNat, by omega⟩
    refine (tinc_any (wildS w0.heap.size a n c ps g hz) k j [] F w hF h.ld h.bel.size (by omega) (by omega) (by simp)).mono fun e w' => ?_
    rintro ⟨A', Fs', v, P, rfl, hS, _⟩
    exact ⟨_, _, rfl, h.sn hF hS⟩
theorem wcon (hz : ∀ s ∈ ps, s.size ≤ 140737488351232) (z i : Int) (w : World) (h : WS w0 a n c ps g w) :
    Calls Tryd.prog 23 #[.iface 59 (.pointer (some ⟨g, 0, none⟩)), .int .i64 z, .int .i64 i] w (TwoT w0 a n c ps g) := by
  obtain ⟨F, hF⟩ := h.ex
  by_cases hb : z < 0 ∨ 1024 < z ∨ i < 0 ∨ z < i
  · exact (tcon_bad (wildS w0.heap.size a n c ps g hz) z i w hb).mono fun e w' he => ⟨_, _, he.1, he.2 ▸ h⟩
  · by_cases he : i = 0 ∨ i = z
    · exact (tcon_edge (wildS w0.heap.size a n c ps g hz) z i w (by omega) (by omega) (by omega) he).mono fun e w' he => ⟨_, _, he.1, he.2 ▸ h⟩
    · obtain ⟨k, rfl⟩ : ∃ k : Nat, z = k := ⟨z.toNat, by omega⟩
      obtain ⟨j, rfl⟩ : ∃ j : Nat, i = j := ⟨i.toNat, by omega⟩
      refine (tcon_any (wildS w0.heap.size a n c ps g hz) k j [] F w hF h.ld h.bel.size (by omega) (by omega) (by omega) (by simp)).mono fun e w' => ?_
      rintro ⟨A', Fs', v, P, rfl, hS, _⟩
      exact ⟨_, _, rfl, h.sn hF hS⟩
end
set_option maxHeartbeats 6400000 in
set_option maxRecDepth 100000 in
theorem law_wild (a : Option Addr) (n c : Nat) (ps : List ByteArray) (z i : Int) (W : World) (hP : PA W a n c ps) (hL : Ld W.heap.size W) (hz : ∀ s ∈ ps, s.size ≤ 140737488351232) :
    Calls Tryd.prog 8 #[.slice a n c, .int .i64 z, .int .i64 i] W fun e W' => e = .returned (.bool true) ∧ Below W.heap.size W W' := by
  have hlow : ∀ ad, a = some ad → 0 < n → ad.block < W.heap.size := fun ad e h0 => by
    obtain ⟨blk, off, e2, hl, _⟩ := hP.at_ h0
    rw [e] at e2; cases e2; exact hl
  have hR := reads_any W.heap.size W hL (Nat.le_refl _)
  have hcap := hP.cap
  have htop := hP.top
  have hmin : min (n : Int) 20 = ((min n 20 : Nat) : Int) := by omega
  obtain ⟨m, hm⟩ : ∃ m, min n 20 = m := ⟨_, rfl⟩
  rw [hm] at hmin
  have hmn : m ≤ n := by omega
  have hP2 := hP.take hmn
  have hz2 : ∀ s ∈ ps.take m, s.size ≤ 140737488351232 := fun s hs => hz s (List.mem_of_mem_take hs)
  obtain ⟨qs, hqs⟩ : ∃ qs, ps.take m = qs := ⟨_, rfl⟩
  rw [hqs] at hP2 hz2
  have hlow2 : ∀ ad, a = some ad → 0 < m → ad.block < W.heap.size := fun ad e h0 => hlow ad e (by omega)
  replace hL := Box.mk hL
  replace hP2 := Box.mk hP2
  replace hz2 := Box.mk hz2
  replace hlow2 := Box.mk hlow2
  clear hP hz hlow hm hqs
  go_enter Tryd.func8, Tryd.ntmps8
  go_wp2_with fail
  refine hR.mono ?_
  clear hR
  rintro e w1 ⟨rfl, hb1⟩
  have hS0 : WS W a m c qs w1.heap.size (w1.alloc (.cells #[.slice a m c] 61)) := by
    have hal := bel_alloc w1 (.cells #[.slice a m c] 61)
    have hb2 := mono_bel hb1 hal (Nat.le_refl _)
    exact ⟨⟨fun k => k = w1.heap.size, Pk.Blk.new w1 [.slice a m c] _, hP2.out.here hb2, fun k => Iff.rfl, hb1.size, hlow2.out⟩, hL.out.here hb2 (Nat.le_refl _), hb2⟩
  obtain ⟨W1, hW1⟩ : ∃ W1, w1.alloc (.cells #[.slice a m c] 61) = W1 := ⟨_, rfl⟩
  obtain ⟨g, hg⟩ : ∃ g, w1.heap.size = g := ⟨_, rfl⟩
  rw [hW1, hg] at hS0
  have hR1 := wroot hz2.out z W1 hS0
  unfold TwoT at hR1
  replace hW1 := Box.mk hW1
  replace hg := Box.mk hg
  clear hS0 hb1 hP2 hlow2 hL
  go_wp2_with fail
  rw [hW1.out, hg.out]
  refine hR1.mono ?_
  clear hR1 hW1 hg
  rintro e w2 ⟨x1, x2, rfl, hS1⟩
  have hR1 := winc hz2.out z i w2 hS1
  unfold TwoT at hR1
  clear hS1
  go_wp2_with fail
  refine hR1.mono ?_
  clear hR1
  rintro e w3 ⟨x3, x4, rfl, hS1⟩
  have hR1 := wcon hz2.out z i w3 hS1
  unfold TwoT at hR1
  clear hS1
  go_wp2_with fail
  refine hR1.mono ?_
  clear hR1
  rintro e w4 ⟨x5, x6, rfl, hS1⟩
  replace hS1 := Box.mk hS1
  have hN1 := troot_nil 1 w4
  go_wp2_with fail
  refine hN1.mono ?_
  clear hN1
  rintro e w5 ⟨rfl, hw⟩
  subst hw
  have hN1 := tinc_nil 1 0 w4
  go_wp2_with fail
  refine hN1.mono ?_
  clear hN1
  rintro e w5 ⟨rfl, hw⟩
  subst hw
  have hN1 := tcon_nil 1 0 w4
  go_wp2_with fail
  refine hN1.mono ?_
  clear hN1
  rintro e w5 ⟨rfl, hw⟩
  subst hw
  have hN1 : Calls Tryd.prog 20 #[.iface 59 (.pointer (some ⟨g, 0, none⟩)), .int .i64 (-1)] w4 _ := troot_bad (wildS W.heap.size a m c qs g hz2.out) (-1) w4 (.inl (by decide))
  go_wp2_with fail
  refine hN1.mono ?_
  clear hN1
  rintro e w5 ⟨rfl, hw⟩
  subst hw
  have hN1 : Calls Tryd.prog 20 #[.iface 59 (.pointer (some ⟨g, 0, none⟩)), .int .i64 1025] w4 _ := troot_bad (wildS W.heap.size a m c qs g hz2.out) 1025 w4 (.inr (by decide))
  go_wp2_with fail
  refine hN1.mono ?_
  clear hN1
  rintro e w5 ⟨rfl, hw⟩
  subst hw
  go_wp2_with fail
  go_ret
  exact ⟨rfl, hS1.out.bel⟩
end Go.Proofs.YtlkopllpadhnlaaDoor
