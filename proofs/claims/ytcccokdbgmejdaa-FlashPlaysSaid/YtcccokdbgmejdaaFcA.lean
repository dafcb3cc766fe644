/- Calls that come in as operations: what each does. -/
import Derived.Test.YtcccokdbgmejdaaFkB
namespace Go.Proofs.Ytcccokdbgmejdaa
open Go.RowKit

structure OpD where
  k : UInt8
  n : Int
  s : ByteArray
  f : List Int
def noT : ByteArray := ⟨#[]⟩
def OpD.m (o : OpD) : Nat := o.k.toNat % 6
def OpD.dev (o : OpD) (D : Dev) : Dev := if o.m = 2 then D.barrier else if o.m = 3 then D else if o.m = 4 then D.falls o.n else if o.m = 5 then D.crash o.f else D.write o.n o.s.data.toList
def OpD.txt (o : OpD) (D : Dev) : ByteArray := if o.m = 3 then ⟨(D.read o.n).toArray⟩ else noT
def OpD.err (o : OpD) (D : Dev) : Int := if o.m = 2 then D.barrierE else if o.m = 3 then D.refused o.n else if o.m = 4 then 0 else if o.m = 5 then 0 else D.writeE o.n o.s.data.toList
structure OpD.ok (o : OpD) : Prop where
  n : -9223372036854775808 ≤ o.n ∧ o.n ≤ 9223372036854775807
  s : o.s.size ≤ 9223372036854775807
  f : o.f.length ≤ 9223372036854775807
/-- A device of nine sectors behind at most c calls. -/
structure D9 (c : Nat) (D : Dev) : Prop where
  s : D.safe.length = 9
  w : D.ws.length ≤ c
  t : D.taken ≤ c
  f : D.fall ≤ 9223372036854775807
theorem D9.step {c : Nat} {D : Dev} (h : D9 c D) : D9 (c + 1) D.stepD ∧ D.stepD.ws = D.ws := by
  have h1 := h.s
  have h2 := h.w
  have h3 := h.t
  have h4 := h.f
  unfold Dev.stepD
  split
  · exact ⟨⟨h1, by simp only; omega, by simp only; omega, by simp only; omega⟩, rfl⟩
  · exact ⟨⟨h1, by simp only; omega, by simp only; omega, by simp only; omega⟩, rfl⟩
theorem D9.wide {c c' : Nat} {D : Dev} (h : D9 c D) (hc : c ≤ c') : D9 c' D := ⟨h.s, Nat.le_trans h.w hc, Nat.le_trans h.t hc, h.f⟩
theorem D9.does {c : Nat} {D : Dev} (h : D9 c D) (o : OpD) (ho : o.ok) : D9 (c + 1) (o.dev D) := by
  have hs := h.step
  have hw := h.w
  have hn := ho.n
  unfold OpD.dev
  split
  · unfold Dev.barrier
    split
    · exact h.wide (by omega)
    · split
      · exact ⟨by simp only; rw [Dev.ok.seen_len]; exact h.s, Nat.zero_le _, hs.1.t, hs.1.f⟩
      · exact hs.1
  · split
    · exact h.wide (by omega)
    · split
      · exact ⟨h.s, by have := h.w; simp only [Dev.falls]; omega, by have := h.t; simp only [Dev.falls]; omega, by simp only [Dev.falls]; omega⟩
      · split
        · exact ⟨by unfold Dev.crash settle; simp only [settleN_length]; exact h.s, Nat.zero_le _, by have := h.t; simp only [Dev.crash]; omega, Nat.zero_le _⟩
        · unfold Dev.write
          split
          · exact h.wide (by omega)
          · split
            · exact h.wide (by omega)
            · split
              · exact ⟨hs.1.s, by simp; omega, hs.1.t, hs.1.f⟩
              · exact hs.1
theorem D9.crash {c : Nat} {D : Dev} (h : D9 c D) (keep : List Int) : D9 c (D.crash keep) :=
  ⟨by unfold Dev.crash settle; simp only [settleN_length]; exact h.s, Nat.zero_le _, h.t, Nat.zero_le _⟩
theorem D9.new : D9 0 (Dev.new 9) := ⟨rfl, Nat.le_refl _, Nat.le_refl _, Nat.zero_le _⟩
theorem Ints.less {w : World} {G H : Nat → Prop} {v : Value} {l : List Int} (h : Ints w G v l) (hG : ∀ k, G k → H k) : Ints w H v l := by
  obtain ⟨a, c, e, hc⟩ := h.out
  exact ⟨a, c, e, fun h0 => by
    obtain ⟨cb, co, e1, e2, e3, e4⟩ := hc h0
    exact ⟨cb, co, e1, e2, hG _ e3, e4⟩⟩
set_option maxHeartbeats 3200000 in
set_option maxRecDepth 100000 in
theorem does_any (B : Nat) (X : Nat → Prop) (bd : Nat) (D : Dev) (w : World) (c : Nat) (o : OpD) (va : Option Addr) (vc : Nat) (h : DV B X w bd D) (hc : D9 c D) (hc1 : c ≤ 1000) (ho : o.ok) (hI : Ints w (fun k => k < B) (.slice va o.f.length vc) o.f) :
    Calls Try.prog 24 #[.pointer (some ⟨bd, 0, none⟩), .agg #[.int .u8 (o.k.toNat : Int), .int .i64 o.n, .string o.s, .slice va o.f.length vc]] w fun e w' => e = .returned (.tuple #[.string (o.txt D), .int .i64 (o.err D)]) ∧ Box (DV B X w' bd (o.dev D)) ∧ Box (Others B X w w') := by
  obtain ⟨k, n, s, f⟩ := o
  obtain ⟨ho1, ho2, ho3⟩ := ho
  simp only at ho1 ho2 ho3 hI ⊢
  obtain ⟨wn, hwn⟩ : ∃ wn, w.alloc (.cells #[.int .u8 (k.toNat : Int), .int .i64 n, .string s, .slice va f.length vc] 32) = wn := ⟨_, rfl⟩
  have hnew := Blk.new w [.int .u8 (k.toNat : Int), .int .i64 n, .string s, .slice va f.length vc] 32
  have hbn : Below w.heap.size w wn := hwn ▸ (Below.refl _ _).alloc (Nat.le_refl _) _
  rw [hwn] at hnew
  obtain ⟨bo, hbo⟩ : ∃ bo, w.heap.size = bo := ⟨_, rfl⟩
  rw [hbo] at hnew
  have e0 : wn.cell? ⟨bo, 0, none⟩ = some (.int .u8 (k.toNat : Int)) := hnew.cell 0
  have e1 : wn.cell? ⟨bo, 1, none⟩ = some (.int .i64 n) := hnew.cell 1
  have e2 : wn.cell? ⟨bo, 2, none⟩ = some (.string s) := hnew.cell 2
  have e3 : wn.cell? ⟨bo, 3, none⟩ = some (.slice va f.length vc) := hnew.cell 3
  have hO : Box (∀ w', Others B X wn w' → Others B X w w') := ⟨fun w' ho => ((Chg.of_below hbn).mono (fun i hi hx => by omega)).trans ho (fun i _ hx => hx)⟩
  have hD := Box.mk (h.keep hbn)
  have hI2 := Box.mk ((hI.chg (Chg.of_below hbn) (fun k hk _ => by omega)).less (fun k hk => Or.inl hk : ∀ k, k < B → (k < B ∨ X k)))
  have hcB := Box.mk hc
  clear hI h hbn hc hnew
  generalize hfl : f.length = vl at *
  have hm : (⟨k, n, s, f⟩ : OpD).m = k.toNat % 6 := rfl
  by_cases h2 : k.toNat % 6 = 2
  · have g2 : ((k.toNat : Int) % 6 == 2) = true := by simp; omega
    rw [h2] at hm
    have hC := hD.out.barrier (by have := hcB.out.t; omega) hcB.out.f
    have r1 : (⟨k, n, s, f⟩ : OpD).txt D = noT := by unfold OpD.txt; rw [hm]; rfl
    have r2 : (⟨k, n, s, f⟩ : OpD).err D = D.barrierE := by unfold OpD.err; rw [hm]; rfl
    have r3 : (⟨k, n, s, f⟩ : OpD).dev D = D.barrier := by unfold OpD.dev; rw [hm]; rfl
    rw [r1, r2, r3]
    replace hC := Box.mk hC
    clear hm h2 r1 r2 r3
    go_enter Try.func24, Try.ntmps24
    go_wp2_with fail
    refine hC.out.mono ?_
    rintro e w2 ⟨rfl, hD2, hO2⟩
    clear hC
    go_wp2_with fail
    go_returns
    exact ⟨rfl, hD2, ⟨hO.out _ hO2.out⟩⟩
  have g2 : ((k.toNat : Int) % 6 == 2) = false := by simp; omega
  by_cases h3 : k.toNat % 6 = 3
  · have g3 : ((k.toNat : Int) % 6 == 3) = true := by simp; omega
    rw [h3] at hm
    have hC := hD.out.read n
    unfold readR at hC
    have r1 : (⟨k, n, s, f⟩ : OpD).txt D = ⟨(D.read n).toArray⟩ := by unfold OpD.txt; rw [hm]; rfl
    have r2 : (⟨k, n, s, f⟩ : OpD).err D = D.refused n := by unfold OpD.err; rw [hm]; rfl
    have r3 : (⟨k, n, s, f⟩ : OpD).dev D = D := by unfold OpD.dev; rw [hm]; rfl
    rw [r1, r2, r3]
    replace hC := Box.mk hC
    clear hm h2 h3 r1 r2 r3
    go_enter Try.func24, Try.ntmps24
    go_wp2_with fail
    refine hC.out.mono ?_
    rintro e w' ⟨rfl, rfl⟩
    clear hC
    go_wp2_with fail
    go_returns
    exact ⟨rfl, hD, ⟨hO.out _ (Chg.refl _ _)⟩⟩
  have g3 : ((k.toNat : Int) % 6 == 3) = false := by simp; omega
  by_cases h4 : k.toNat % 6 = 4
  · have g4 : ((k.toNat : Int) % 6 == 4) = true := by simp; omega
    rw [h4] at hm
    have hC := hD.out.fall n ho1
    have r1 : (⟨k, n, s, f⟩ : OpD).txt D = noT := by unfold OpD.txt; rw [hm]; rfl
    have r2 : (⟨k, n, s, f⟩ : OpD).err D = 0 := by unfold OpD.err; rw [hm]; rfl
    have r3 : (⟨k, n, s, f⟩ : OpD).dev D = D.falls n := by unfold OpD.dev; rw [hm]; rfl
    rw [r1, r2, r3]
    replace hC := Box.mk hC
    clear hm h2 h3 h4 r1 r2 r3
    go_enter Try.func24, Try.ntmps24
    go_wp2_with fail
    refine hC.out.mono ?_
    rintro e w2 ⟨rfl, hD2, hO2⟩
    clear hC
    go_wp2_with fail
    go_returns
    exact ⟨rfl, hD2, ⟨hO.out _ hO2.out⟩⟩
  have g4 : ((k.toNat : Int) % 6 == 4) = false := by simp; omega
  by_cases h5 : k.toNat % 6 = 5
  · have g5 : ((k.toNat : Int) % 6 == 5) = true := by simp; omega
    rw [h5] at hm
    have hC := hD.out.crash (.slice va vl vc) f (by have := hcB.out.s; omega) (by have := hcB.out.w; omega) hI2.out (by omega)
    have r1 : (⟨k, n, s, f⟩ : OpD).txt D = noT := by unfold OpD.txt; rw [hm]; rfl
    have r2 : (⟨k, n, s, f⟩ : OpD).err D = 0 := by unfold OpD.err; rw [hm]; rfl
    have r3 : (⟨k, n, s, f⟩ : OpD).dev D = D.crash f := by unfold OpD.dev; rw [hm]; rfl
    rw [r1, r2, r3]
    replace hC := Box.mk hC
    clear hm h2 h3 h4 h5 r1 r2 r3
    go_enter Try.func24, Try.ntmps24
    go_wp2_with fail
    refine hC.out.mono ?_
    rintro e w2 ⟨rfl, hD2, hO2⟩
    clear hC
    go_wp2_with fail
    go_returns
    exact ⟨rfl, hD2, ⟨hO.out _ hO2.out⟩⟩
  have g5 : ((k.toNat : Int) % 6 == 5) = false := by simp; omega
  have hC := hD.out.write n s (by have := hcB.out.t; omega) hcB.out.f (by have := hcB.out.w; omega)
  have r1 : (⟨k, n, s, f⟩ : OpD).txt D = noT := by unfold OpD.txt; rw [hm, if_neg h3]
  have r2 : (⟨k, n, s, f⟩ : OpD).err D = D.writeE n s.data.toList := by unfold OpD.err; rw [hm, if_neg h2, if_neg h3, if_neg h4, if_neg h5]
  have r3 : (⟨k, n, s, f⟩ : OpD).dev D = D.write n s.data.toList := by unfold OpD.dev; rw [hm, if_neg h2, if_neg h3, if_neg h4, if_neg h5]
  rw [r1, r2, r3]
  replace hC := Box.mk hC
  clear hm h2 h3 h4 h5 r1 r2 r3
  go_enter Try.func24, Try.ntmps24
  go_wp2_with fail
  refine hC.out.mono ?_
  rintro e w2 ⟨rfl, hD2, hO2⟩
  clear hC
  go_wp2_with fail
  go_returns
  exact ⟨rfl, hD2, ⟨hO.out _ hO2.out⟩⟩
end Go.Proofs.Ytcccokdbgmejdaa
