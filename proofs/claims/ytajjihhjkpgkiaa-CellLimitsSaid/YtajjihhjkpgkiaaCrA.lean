/- What the law CellCrashes keeps. -/
import Derived.Test.YtajjihhjkpgkiaaCeU
namespace Go.Proofs.Ytajjihhjkpgkiaa
open Go.RowKit Go.Maps

def tK : ByteArray := ⟨#[107]⟩
def cK (s : Bs) : Ct := [([107], s)]
theorem bytesC_k (s : Bs) (_ : s.length ≤ 65535) : (bytesC (cK s)).length = 7 + s.length := by
  simp [bytesC, cK, pairL, txL, beN_length]
  omega
theorem cK_ok (s : Bs) (h : s.length ≤ 65535) : (cK s).ok := ⟨by show 1 ≤ 64; omega, fun p hp => by
  obtain rfl : p = ([107], s) := by simpa [cK] using hp
  exact ⟨by show 1 ≤ 1; omega, by show 1 ≤ 32; omega, h⟩, by simp [cK]⟩
theorem get_k (s : Bs) : getC (cK s) [107] = some s := by simp [getC, cK]
theorem putE_k {c : Ct} (hc : c.ok) (h : c = [] ∨ ∃ s, c = cK s) (t : Bs) (ht : t.length ≤ 65535) : putE c [107] t = 0 := by
  unfold putE
  rw [if_neg (by simp), if_neg (by omega)]
  rw [if_neg]
  rintro ⟨_, hl⟩
  rcases h with rfl | ⟨s, rfl⟩
  · cases hl
  · simp [cK] at hl
theorem putM_k {c : Ct} (hc : c.ok) (h : c = [] ∨ ∃ s, c = cK s) (t : Bs) (ht : t.length ≤ 65535) : putM c [107] t = cK t := by
  unfold putM
  rw [if_pos (putE_k hc h t ht)]
  rcases h with rfl | ⟨s, rfl⟩
  · rfl
  · simp [putC, cK]
/-- What is kept under the one name: the text, and whether there is any. -/
def HasK (c : Ct) (h : Bs) (y : Bool) : Prop := (c = [] ∧ h = [] ∧ y = false) ∨ (c = cK h ∧ y = true)
theorem HasK.some {c : Ct} {h : Bs} {y : Bool} (k : HasK c h y) : c = [] ∨ ∃ s, c = cK s := by
  rcases k with ⟨h, _⟩ | ⟨h, _⟩
  · exact .inl h
  · exact .inr ⟨_, h⟩
theorem HasK.get {c : Ct} {h : Bs} {y : Bool} (k : HasK c h y) : getV c tK.data.toList = .tuple #[.string (btx h), .bool y] := by
  show getV c [107] = _
  rcases k with ⟨rfl, rfl, rfl⟩ | ⟨rfl, rfl⟩
  · rfl
  · unfold getV; rw [get_k]; rfl
/-- Between two commits. -/
structure KC (wb : World) (bd bc i : Nat) (D : Dev) (M : CellM) (h : Bs) (w : World) : Prop where
  k : Kept wb (Pair2 (DevO bd D) (CelO bd bc 0 10 M)) w
  snd : Sound 0 10 D M
  len : D.safe.length = 20
  t : D.taken ≤ 20 * i
  f : D.fall ≤ 20
  n : M.num ≤ i
  nw : M.now = M.was
  has : ∃ y, HasK M.was h y
/-- A new text is put, and not yet committed. -/
structure KP (wb : World) (bd bc i : Nat) (D : Dev) (M : CellM) (h s : Bs) (w : World) : Prop where
  k : Kept wb (Pair2 (DevO bd D) (CelO bd bc 0 10 M)) w
  snd : Sound 0 10 D M
  len : D.safe.length = 20
  t : D.taken ≤ 20 * i
  f : D.fall ≤ 20
  n : M.num ≤ i
  nw : M.now = cK s
  sl : s.length ≤ 400
  has : ∃ y, HasK M.was h y
/-- The power has gone in a commit. -/
structure KO (wb : World) (bd bc i : Nat) (D : Dev) (M : CellM) (h s : Bs) (w : World) : Prop where
  k : Kept wb (Pair2 (DevO bd D) (CelO bd bc 0 10 M)) w
  a : ∃ D0 num c last, After D0 D 0 10 num c (cK s) last ∧ D0.safe.length = 20 ∧ num ≤ i ∧ c.ok ∧ D0.taken ≤ 20 * i ∧ D0.fall ≤ 20 ∧ ∃ y, HasK c h y
  off : D.off = true
  sl : s.length ≤ 400
/-- The power is back, the cell isn't yet opened. -/
structure KX (wb : World) (bd bc i : Nat) (D : Dev) (M : CellM) (h s : Bs) (w : World) : Prop where
  k : Kept wb (Pair2 (DevO bd D) (CelO bd bc 0 10 M)) w
  calm : Calm D
  len : D.safe.length = 20
  t : D.taken ≤ 20 * i
  f : D.fall ≤ 20
  r : ∃ num c last, num ≤ i ∧ c.ok ∧ Region D.safe 0 10 num c last ∧ ∃ h' y, HasK c h' y ∧ ((h' = h ∧ (y = true ∨ h = [])) ∨ (h' = s ∧ y = true))
section
variable {wb w w' : World} {bd bc i : Nat} {D : Dev} {M : CellM} {h s : Bs}
theorem KC.below (k : KC wb bd bc i D M h w) (hb : Below w.heap.size w w') : KC wb bd bc i D M h w' := { k with k := k.k.below (Pair2.good (DevO.good _ _) (CelO.good _ _ _ _ _)) hb }
theorem KC.fall (k : KC wb bd bc i D M h w) (n : Int) (hn : 0 ≤ n ∧ n ≤ 20) : Calls Try.prog 8 #[.pointer (some ⟨bd, 0, none⟩), .int .i64 n] w fun e w' => e = .returned (.tuple #[]) ∧ Box (∃ D', KC wb bd bc i D' M h w') :=
  (k.k.step ((fall_does bd D n (by omega)).in_.ret (CelO.good _ _ _ _ _))).mono fun e w' ⟨he, hk⟩ => ⟨he, ⟨⟨D.falls n, hk.out, ⟨⟨k.snd.calm.ok.falls n, k.snd.calm.off, k.snd.calm.ws⟩, k.snd.region, k.snd.ok, k.snd.off⟩, k.len, k.t, by show (max n 0).toNat ≤ 20; omega, k.n, k.nw, k.has⟩⟩⟩
theorem KC.put (k : KC wb bd bc i D M h w) (t : ByteArray) (ht : t.size ≤ 400) : Calls Try.prog 9 #[.pointer (some ⟨bc, 0, none⟩), .string tK, .string t] w fun e w' => e = .returned (.int .i64 0) ∧ Box (KP wb bd bc i D { M with now := cK t.data.toList } h t.data.toList w') := by
  obtain ⟨y, hy⟩ := k.has
  have hl : t.data.toList.length ≤ 400 := by rw [data_len]; exact ht
  have hc : M.now.ok := k.snd.ok.now
  have hs : M.now = [] ∨ ∃ s, M.now = cK s := by rw [k.nw]; exact hy.some
  have hP := k.k.step ((put_does bd bc 0 10 M tK t (by unfold maxLen; decide) (by unfold maxLen; omega)).in_.ret' (DevO.good _ _))
  rw [show putE M.now tK.data.toList t.data.toList = 0 from putE_k hc hs _ (by omega), show putM M.now tK.data.toList t.data.toList = cK t.data.toList from putM_k hc hs _ (by omega)] at hP
  exact hP.mono fun e w' ⟨he, hk⟩ => ⟨he, ⟨hk.out, k.snd.now (cK_ok _ (by omega)), k.len, k.t, k.f, k.n, rfl, hl, k.has⟩⟩
theorem KP.commit (k : KP wb bd bc i D M h s w) (hi : i ≤ 40) : Calls Try.prog 10 #[.pointer (some ⟨bc, 0, none⟩)] w fun e w' => (e = .returned (.int .i64 0) ∧ Box (∃ D' M', KC wb bd bc (i + 1) D' M' s w')) ∨ (e = .returned (.int .i64 7) ∧ Box (∃ D' M', KO wb bd bc i D' M' h s w')) := by
  have hC := k.k.step (commit_does bd bc 0 10 D M (by have := k.t; omega) (by have := k.f; omega) (by rw [k.snd.calm.ws]; exact Nat.zero_le _) (by have := k.n; omega)).in_
  have hl : (bytesC M.now).length ≤ 64 * (10 - 1) := by rw [k.nw, bytesC_k _ (by have := k.sl; omega)]; have := k.sl; omega
  have hnum : M.num < 1000000 := by have := k.n; omega
  have hok := commitC_ok (D := D) k.snd.ok hnum
  have hoff := k.snd.off
  have hnl : ¬ 64 * (10 - 1) < (bytesC M.now).length := by omega
  unfold commitE commitD commitC at hC
  unfold commitC at hok
  simp only [hoff, if_neg hnl, Bool.false_eq_true, if_false] at hC hok
  rcases commit_cases k.snd.calm k.snd.region k.snd.ok.now hnum hl with ⟨h1, h2⟩ | ⟨h1, h3, h2⟩
  · rw [h1] at hC
    rw [if_pos rfl] at hC
    rw [if_pos h1] at hok
    generalize (commitM D (toC 0 10 M.last) (hdr (M.num + 1) (bytesC M.now).length) (pieces M.now)).2 = D' at hC h2
    refine hC.mono fun e w' ⟨he, hk⟩ => .inl ⟨he, ⟨D', _, hk.out, ⟨h2.calm, h2.region, hok, rfl⟩, by rw [h2.len]; exact k.len, ?_, ?_, ?_, rfl, true, .inr ⟨k.nw, rfl⟩⟩⟩
    · have := h2.taken; have := k.t; omega
    · have := h2.fall; have := k.f; omega
    · have := k.n; show M.num + 1 ≤ i + 1; omega
  · rw [h1] at hC
    rw [if_neg (by decide)] at hC
    generalize (commitM D (toC 0 10 M.last) (hdr (M.num + 1) (bytesC M.now).length) (pieces M.now)).2 = D' at hC h2 h3
    rw [k.nw] at h2
    exact hC.mono fun e w' ⟨he, hk⟩ => .inr ⟨he, ⟨D', _, hk.out, ⟨D, M.num, M.was, M.last, h2, k.len, k.n, k.snd.ok.was, k.t, k.f, k.has⟩, h3, k.sl⟩⟩
theorem KC.dark (k : KC wb bd bc i D M h w) : Calls Try.prog 11 #[.pointer (some ⟨bd, 0, none⟩)] w fun e w' => e = .returned (.bool false) ∧ Box (KC wb bd bc i D M h w') := by
  have hS := k.k.step ((dark_does bd D).in_.ret (CelO.good _ _ _ _ _))
  rw [k.snd.calm.off] at hS
  exact hS.mono fun e w' ⟨he, hk⟩ => ⟨he, ⟨{ k with k := hk.out }⟩⟩
theorem KO.crash (k : KO wb bd bc i D M h s w) (v : Value) (keep : List Int) (hI : Ints wb (fun k => k < wb.heap.size) v keep) (hkl : keep.length ≤ 9223372036854775807) :
    Calls Try.prog 12 #[.pointer (some ⟨bd, 0, none⟩), .agg #[v]] w fun e w' => e = .returned (.tuple #[]) ∧ Box (KX wb bd bc (i + 1) (D.crash keep) M h s w') := by
  obtain ⟨D0, num, c, last, ha, hl, hn, hc, ht, hf, y, hy⟩ := k.a
  have hS := k.k.step ((crash_does wb bd D v keep (by rw [ha.len, hl]; omega) (by have := ha.wsl; omega) hI hkl).ret (CelO.good _ _ _ _ _))
  obtain ⟨h1, h2⟩ := ha.crash keep
  refine hS.mono fun e w' ⟨he, hk⟩ => ⟨he, ⟨hk.out, ⟨ha.ok.crash keep, rfl, rfl⟩, by rw [h1, hl], by show D.taken ≤ _; have := ha.taken; omega, Nat.zero_le _, ?_⟩⟩
  rcases h2 with h2 | h2
  · refine ⟨num, c, last, by omega, hc, h2, h, y, hy, .inl ⟨rfl, ?_⟩⟩
    rcases hy with ⟨_, hh, _⟩ | ⟨_, hh⟩
    · exact .inr hh
    · exact .inl hh
  · exact ⟨num + 1, cK s, 1 - last, by omega, cK_ok _ (by have := k.sl; omega), h2, s, true, .inr ⟨rfl, rfl⟩, .inr ⟨rfl, rfl⟩⟩
theorem KX.opens (k : KX wb bd bc i D M h s w) : Calls Try.prog 7 #[.pointer (some ⟨bd, 0, none⟩), .int .i64 0, .int .i64 10] w fun e w' => ∃ b2, e = .returned (.tuple #[.pointer (some ⟨b2, 0, none⟩), .int .i64 0]) ∧ Box (∃ M' h' y, KC wb bd b2 i D M' h' w' ∧ HasK M'.now h' y ∧ ((h' = h ∧ (y = true ∨ h = [])) ∨ (h' = s ∧ y = true))) := by
  obtain ⟨num, c, last, hn, hc, hr, h', y, hy, hh⟩ := k.r
  have hs : Sound 0 10 D (atM num c last) := Sound.opened k.calm hr hc (by omega) (by omega)
  refine (k.k.opens (base := 0) (half := 10) (CelO.good _ _ _ _ _) (atM num c last) k.calm.off (by omega) (by rw [k.len]; omega) hs.opens rfl rfl hs.ok).mono fun e w' ⟨b2, he, hk⟩ => ⟨b2, he, ⟨atM num c last, h', y, ⟨?_, hs, k.len, k.t, k.f, hn, rfl, y, hy⟩, hy, hh⟩⟩
  obtain ⟨F, ⟨F1, F2, h1, _, _, e1, _, _⟩, h3, h4⟩ := hk.out
  exact ⟨F1, h1, fun k hk => h3 k (e1 k hk), h4⟩
theorem KC.get {y : Bool} (k : KC wb bd bc i D M h w) (hy : HasK M.now h y) : Calls Try.prog 13 #[.pointer (some ⟨bc, 0, none⟩), .string tK] w fun e w' => e = .returned (.tuple #[.string (btx h), .bool y]) ∧ Box (KC wb bd bc i D M h w') := by
  have hG := k.k.step ((get_does bd bc 0 10 M tK (by unfold maxLen; decide)).in_.ret' (DevO.good _ _))
  rw [hy.get] at hG
  exact hG.mono fun e w' ⟨he, hk⟩ => ⟨he, ⟨{ k with k := hk.out }⟩⟩
theorem KC.start {w0 w2 : World} (hk : Kept w0 (Pair2 (DevO bd (Dev.new 20)) (CelO bd bc 0 10 M0)) w2) : KC w0 bd bc 0 (Dev.new 20) M0 [] w2 :=
  ⟨hk, Sound.new 20 0 10 (by decide) (by decide) (by decide), rfl, Nat.zero_le _, Nat.zero_le _, Nat.le_refl _, rfl, false, .inl ⟨rfl, rfl, rfl⟩⟩
end
end Go.Proofs.Ytajjihhjkpgkiaa
