/- A cell that is sound on its device; the first example. -/
import Derived.Test.YtoaipjpbioaneaaGreatCeK
namespace Go.Proofs.YtoaipjpbioaneaaGreat
open Go.RowKit Go.Maps

/-- A cell that knows its region, on a device that is at rest. -/
structure Sound (base half : Nat) (D : Dev) (M : CellM) : Prop where
  calm : Calm D
  region : Region D.safe base half M.num M.was M.last
  ok : M.ok base half
  off : M.off = false
theorem Sound.now {base half : Nat} {D : Dev} {M : CellM} (h : Sound base half D M) {c : Ct} (hc : c.ok) : Sound base half D { M with now := c } := ⟨h.calm, h.region, ⟨hc, h.ok.was, h.ok.num, h.ok.last, h.ok.base, h.ok.half⟩, h.off⟩
/-- What a commit of a sound cell does, where the power doesn't go. -/
structure Goes (base half : Nat) (D : Dev) (M : CellM) : Prop where
  e : commitE base half D M = 0
  c : commitC base half D M = { M with was := M.now, num := M.num + 1, last := 1 - M.last }
  sound : Sound base half (commitD base half D M) (commitC base half D M)
  taken : (commitD base half D M).taken = D.taken + (pieces M.now).length + 5
  fall : (commitD base half D M).fall = 0
  len : (commitD base half D M).safe.length = D.safe.length
  out : ∀ i, i < base ∨ base + 2 * half ≤ i → (commitD base half D M).safe[i]? = D.safe[i]?
theorem Sound.goes {base half : Nat} {D : Dev} {M : CellM} (h : Sound base half D M) (hf : D.fall = 0) (hn : M.num < 1000000) (hl : (bytesC M.now).length ≤ 64 * (half - 1)) : Goes base half D M := by
  obtain ⟨a1, a2, a3, a4⟩ := commit_never h.calm hf h.region h.ok.now hn hl
  have eE : commitE base half D M = (commitM D (toC base half M.last) (hdr (M.num + 1) (bytesC M.now).length) (pieces M.now)).1 := by unfold commitE; rw [h.off, if_neg (by decide), if_neg (by omega)]
  have eD : commitD base half D M = (commitM D (toC base half M.last) (hdr (M.num + 1) (bytesC M.now).length) (pieces M.now)).2 := by unfold commitD; rw [h.off, if_neg (by decide), if_neg (by omega)]
  have eC : commitC base half D M = { M with was := M.now, num := M.num + 1, last := 1 - M.last } := by unfold commitC; rw [h.off, if_neg (by decide), if_neg (by omega), if_pos a1]
  have hok := commitC_ok (D := D) h.ok hn
  exact ⟨by rw [eE]; exact a1, eC, ⟨by rw [eD]; exact a2.calm, by rw [eD, eC]; exact a2.region, hok, by rw [eC]; exact h.off⟩, by rw [eD]; exact a3, by rw [eD]; exact a4, by rw [eD]; exact a2.len, by rw [eD]; exact a2.out⟩
theorem Sound.long {base half : Nat} {D : Dev} {M : CellM} (h : M.off = false) (hl : 64 * (half - 1) < (bytesC M.now).length) : commitE base half D M = 4 ∧ commitD base half D M = D ∧ commitC base half D M = M := by
  refine ⟨?_, ?_, ?_⟩
  · unfold commitE; rw [h, if_neg (by decide), if_pos hl]
  · unfold commitD; rw [h, if_neg (by decide), if_pos hl]
  · unfold commitC; rw [h, if_neg (by decide), if_pos hl]
def M0 : CellM := ⟨[], [], 0, 1, false⟩
theorem Calm.new (n : Nat) (h : n ≤ 4096) : Calm (Dev.new n) := ⟨Dev.new_ok n h, rfl, rfl⟩
theorem new_zero (n i : Nat) : (Dev.new n).safe.getD i zeroS = zeroS := by
  show (List.replicate n zeroS).getD i zeroS = zeroS
  rw [List.getD_eq_getElem?_getD, List.getElem?_replicate]
  split <;> rfl
theorem Sound.new (n base half : Nat) (hn : n ≤ 4096) (h2 : 2 ≤ half) (hf : base + 2 * half ≤ n) : Sound base half (Dev.new n) M0 :=
  ⟨Calm.new n hn, Region.new _ _ _ (by show base + 2 * half ≤ (List.replicate n zeroS).length; rw [List.length_replicate]; exact hf) h2 (new_zero n), ⟨Ct.ok_nil, Ct.ok_nil, by decide, by decide, by omega, by omega⟩, rfl⟩
/-- A cell opened on a region. -/
def atM (num : Nat) (c : Ct) (last : Nat) : CellM := ⟨c, c, num, last, false⟩
theorem Sound.opened {base half : Nat} {D : Dev} {num last : Nat} {c : Ct} (hD : Calm D) (hR : Region D.safe base half num c last) (hc : c.ok) (hb : base ≤ 4096) (hh : half ≤ 4096) : Sound base half D (atM num c last) :=
  ⟨hD, hR, ⟨hc, hc, hR.few, hR.last1, hb, hR.half2, hh⟩, rfl⟩
theorem Sound.opens {base half : Nat} {D : Dev} {M : CellM} (h : Sound base half D M) : openN D.seen base half = (M.num, M.was, M.last) := by
  rw [seen_calm h.calm]; exact h.region.opensN

def tA : ByteArray := ⟨#[97]⟩
def tX : ByteArray := ⟨#[120]⟩
def cAX : Ct := [([97], [120])]
def M1 : CellM := { M0 with now := cAX }
theorem putE_a : putE M0.now [97] [120] = 0 := by decide +kernel
theorem putM_a : putM M0.now [97] [120] = cAX := by decide +kernel
theorem cAX_ok : cAX.ok := ⟨by decide, by decide, by decide⟩
theorem cAX_len : (bytesC cAX).length ≤ 64 * (4 - 1) := by decide +kernel
theorem cAX_pieces : (pieces cAX).length = 1 := by decide +kernel
theorem sound1 : Sound 0 4 (Dev.new 8) M1 := (Sound.new 8 0 4 (by decide) (by decide) (by decide)).now cAX_ok
theorem goes1 : Goes 0 4 (Dev.new 8) M1 := sound1.goes rfl (by decide) cAX_len
def D2 : Dev := commitD 0 4 (Dev.new 8) M1
def M2 : CellM := atM 1 cAX 0
theorem goes1_c : commitC 0 4 (Dev.new 8) M1 = M2 := goes1.c
theorem sound2 : Sound 0 4 D2 M2 := by
  have := goes1.sound
  rw [goes1_c] at this
  exact this
theorem taken2 : D2.taken = 6 := by
  have := goes1.taken
  unfold D2
  rw [this]
  show 0 + (pieces cAX).length + 5 = 6
  rw [cAX_pieces]
theorem get2 : getV M2.now [97] = .tuple #[.string tX, .bool true] := by
  have : getC M2.now [97] = some [120] := by decide +kernel
  unfold getV; rw [this]; rfl
set_option maxHeartbeats 3200000 in
set_option maxRecDepth 100000 in
theorem commits_any (w : World) : Calls Tryz.prog 5 #[] w fun e w' => e = .returned (.bool true) ∧ Below w.heap.size w w' := by
  have hN := Box.mk (newdev_kept (Below.refl w.heap.size w) 8 (by decide) (by decide))
  go_enter Tryz.func5, Tryz.ntmps5
  go_wp2_with fail
  refine hN.out.mono ?_
  rintro e w1 ⟨bd, rfl, hK1⟩
  have s0 := Sound.new 8 0 4 (by decide) (by decide) (by decide)
  have hO := Box.mk (hK1.out.opens1 (base := 0) (half := 4) M0 rfl (by decide) (by decide) s0.opens rfl rfl s0.ok)
  clear hN s0
  go_wp2_with fail
  refine hO.out.mono ?_
  rintro e w2 ⟨bc, rfl, hK2⟩
  have hP := Box.mk (hK2.out.step ((put_does bd bc 0 4 M0 tA tX (by decide) (by decide)).in_.ret' (DevO.good _ _)))
  rw [show putE M0.now tA.data.toList tX.data.toList = 0 from putE_a, show putM M0.now tA.data.toList tX.data.toList = cAX from putM_a, show ({ M0 with now := cAX } : CellM) = M1 from rfl] at hP
  clear hO hK1
  go_wp2_with fail
  refine hP.out.mono ?_
  rintro e w3 ⟨rfl, hK3⟩
  have hC := Box.mk (hK3.out.step (commit_does bd bc 0 4 (Dev.new 8) M1 (by decide) (by decide) (by decide) (by decide)).in_)
  rw [goes1.e, goes1_c, show commitD 0 4 (Dev.new 8) M1 = D2 from rfl] at hC
  clear hP hK2
  go_wp2_with fail
  refine hC.out.mono ?_
  rintro e w4 ⟨rfl, hK4⟩
  have hNu := Box.mk (hK4.out.step ((num_does bd bc 0 4 M2).in_.ret' (DevO.good _ _)))
  rw [show ((M2.num : Nat) : Int) = 1 from rfl] at hNu
  clear hC hK3
  go_wp2_with fail
  refine hNu.out.mono ?_
  rintro e w5 ⟨rfl, hK5⟩
  have hSt := Box.mk (hK5.out.step ((steps_does bd D2).in_.ret (CelO.good bd bc 0 4 M2)))
  rw [taken2, show ((6 : Nat) : Int) = 6 from rfl] at hSt
  clear hNu hK4
  go_wp2_with fail
  refine hSt.out.mono ?_
  rintro e w6 ⟨rfl, hK6⟩
  have hO2 := Box.mk (hK6.out.opens (CelO.good bd bc 0 4 M2) M2 sound2.calm.off (by decide) (by rw [show D2.safe.length = 8 from goes1.len]; decide) sound2.opens rfl rfl sound2.ok)
  clear hSt hK5
  go_wp2_with fail
  refine hO2.out.mono ?_
  rintro e w7 ⟨b2, rfl, hK7⟩
  have hG := Box.mk (hK7.out.step (((get_does bd b2 0 4 M2 tA (by decide)).in_.ret' (DevO.good _ _)).ret (CelO.good bd bc 0 4 M2)))
  rw [show getV M2.now tA.data.toList = .tuple #[.string tX, .bool true] from get2] at hG
  clear hO2 hK6
  go_wp2_with fail
  refine hG.out.mono ?_
  rintro e w8 ⟨rfl, hK8⟩
  have hNu := Box.mk (hK8.out.step (((num_does bd b2 0 4 M2).in_.ret' (DevO.good _ _)).ret (CelO.good bd bc 0 4 M2)))
  rw [show ((M2.num : Nat) : Int) = 1 from rfl] at hNu
  have hx : tX.toList = [120] := by decide +kernel
  clear hG hK7
  go_wp2_with fail
  refine hNu.out.mono ?_
  rintro e w9 ⟨rfl, hK9⟩
  have hB : Box (Below w.heap.size w w9) := ⟨hK9.out.k⟩
  clear hNu hK8 hK9
  go_wp2_with fail
  go_returns
  exact ⟨rfl, hB.out⟩
end Go.Proofs.YtoaipjpbioaneaaGreat
