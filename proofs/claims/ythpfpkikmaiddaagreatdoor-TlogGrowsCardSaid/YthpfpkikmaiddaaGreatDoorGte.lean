/- A log as a thing beside others: what is bounded, how the calls of what it stands on are calls beside all of it; its commit. | A log's small calls: Size, Pending, Left, ID, Note, Leaf, issued; nil's. -/
import Derived.Test.YthpfpkikmaiddaaGreatDoorGto
import Derived.Test.YthpfpkikmaiddaaGreatDoorGtb
set_option linter.all false
set_option linter.unusedVariables false
set_option linter.unusedSimpArgs false
namespace Go.Proofs.YthpfpkikmaiddaaGreatDoor.Tg
open Go Go.RowKit Go.Proofs.YthpfpkikmaiddaaGreatDoor.Pk Go.Proofs.YthpfpkikmaiddaaGreatDoor.Nt

/-! ### Bounds -/
structure Bd (k : Nat) (D : Dev) (C : CellM) : Prop where
  t : D.taken ≤ 1000 * k
  w : D.ws.length ≤ 1000 * k
  n : C.num ≤ k
  f : D.fall ≤ 9223372036854775807
theorem Bd.up {k m : Nat} {D : Dev} {C : CellM} (h : Bd k D C) (hm : k ≤ m) : Bd m D C := ⟨by have := h.t; omega, by have := h.w; omega, by have := h.n; omega, h.f⟩
theorem stepD_bd (D : Dev) : D.stepD.taken ≤ D.taken + 1 ∧ D.stepD.ws = D.ws ∧ D.stepD.fall ≤ D.fall := by
  unfold Dev.stepD
  split
  · exact ⟨Nat.le_succ _, rfl, Nat.zero_le _⟩
  · exact ⟨Nat.le_refl _, rfl, Nat.sub_le _ _⟩
theorem write_bd (D : Dev) (n : Nat) (t : Bs) : (D.write n t).taken ≤ D.taken + 1 ∧ (D.write n t).ws.length ≤ D.ws.length + 1 ∧ (D.write n t).fall ≤ D.fall := by
  obtain ⟨h1, h2, h3⟩ := stepD_bd D
  unfold Dev.write
  split
  · omega
  · split
    · omega
    · split
      · refine ⟨h1, ?_, h3⟩
        show (D.ws ++ [((n : Int).toNat, padS t)]).length ≤ _
        simp
      · rw [h2]; omega
theorem barrier_bd (D : Dev) : D.barrier.taken ≤ D.taken + 1 ∧ D.barrier.ws.length ≤ D.ws.length ∧ D.barrier.fall ≤ D.fall := by
  obtain ⟨h1, h2, h3⟩ := stepD_bd D
  unfold Dev.barrier
  split
  · omega
  · split
    · exact ⟨h1, Nat.zero_le _, h3⟩
    · rw [h2]; omega
theorem layM_bd : ∀ (l : List Bs) (D : Dev) (n : Nat), (layM l D n).2.taken ≤ D.taken + l.length + 1 ∧ (layM l D n).2.ws.length ≤ D.ws.length + l.length ∧ (layM l D n).2.fall ≤ D.fall
  | [], D, n => by have := barrier_bd D; simpa [layM] using this
  | t :: r, D, n => by
    have h1 := write_bd D n t
    unfold layM
    split
    · have h2 := layM_bd r (D.write n t) (n + 1)
      simp only [List.length_cons]
      omega
    · simp only [List.length_cons]
      omega
theorem commitM_bd (D : Dev) (a : Nat) (h : Bs) (l : List Bs) : (commitM D a h l).2.taken ≤ D.taken + l.length + 5 ∧ (commitM D a h l).2.ws.length ≤ D.ws.length + l.length + 2 ∧ (commitM D a h l).2.fall ≤ D.fall := by
  have h1 := layM_bd [zeros] D a
  have h2 := layM_bd l (layM [zeros] D a).2 (a + 1)
  have h3 := layM_bd [h] (layM l (layM [zeros] D a).2 (a + 1)).2 a
  simp only [List.length_singleton] at h1 h3
  unfold commitM
  split
  · split <;> omega
  · omega
theorem commit_bd {k b h : Nat} {D : Dev} {C : CellM} (hb : Bd k D C) (hh : h ≤ 300) : Bd (k + 1) (commitD b h D C) (commitC b h D C) := by
  have ht := hb.t
  have hw := hb.w
  have hn := hb.n
  have hf := hb.f
  unfold commitD commitC
  split
  · exact hb.up (by omega)
  · split
    · exact hb.up (by omega)
    · next hl =>
      have hp := pieces_len C.now h (by omega)
      have hm := commitM_bd D (toC b h C.last) (hdr (C.num + 1) (bytesC C.now).length) (pieces C.now)
      split
      · exact ⟨by omega, by omega, by show C.num + 1 ≤ _; omega, by omega⟩
      · exact ⟨by omega, by omega, by show C.num ≤ _; omega, by omega⟩
theorem pc_bd {k b h : Nat} {D : Dev} {C : CellM} (hb : Bd k D C) (hh : h ≤ 300) (n t : Bs) : Bd (k + 1) (pcD b h D C n t) (pcC b h D C n t) := by
  have h1 : Bd k D { C with now := putM C.now n t } := ⟨hb.t, hb.w, hb.n, hb.f⟩
  have h2 := commit_bd (b := b) h1 hh
  unfold pcD pcC
  split
  · split
    · exact h2
    · exact ⟨h2.t, h2.w, h2.n, h2.f⟩
  · have := hb.up (Nat.le_succ k)
    exact ⟨this.t, this.w, this.n, this.f⟩

/-! ### A log -/
structure Pl where
  bd : Nat
  bl : Nat
  bc : Nat
  bk : Nat
def TLo (p : Pl) (b h : Nat) (c : Cfg) (D : Dev) (L : LogM) (vl vh vp : Value) : Pk.Obj :=
  Pair2 (Pair2 (DevO p.bd D) (CelO p.bd p.bc b h L.C)) (Pair2 (KeyO p.bk c.s c.h L.u) (LrO p.bl c.o p.bk p.bc L.lv L.pd vl vh vp))
section
variable {w0 w w' : World} {p : Pl} {b h : Nat} {c : Cfg} {D D' : Dev} {L : LogM} {vl vh vp : Value} {X : Pk.Obj}
theorem TLo.good : Pk.Good (TLo p b h c D L vl vh vp) := Pair2.good (Pair2.good (DevO.good _ _) (CelO.good _ _ _ _ _)) (Pair2.good (KeyO.good _ _ _ _) (LrO.good _ _ _ _ _ _ _ _ _))
/-- .. whatever its rows are. -/
def TLx (p : Pl) (b h : Nat) (c : Cfg) (D : Dev) (L : LogM) : Pk.Obj := fun w F => ∃ vl vh vp, TLo p b h c D L vl vh vp w F
theorem TLx.good : Pk.Good (TLx p b h c D L) where
  lt := fun ⟨_, _, _, h⟩ => TLo.good.lt h
  chg := fun ⟨vl, vh, vp, h⟩ hc hn => ⟨vl, vh, vp, TLo.good.chg h hc hn⟩
  wide := fun ⟨vl, vh, vp, h⟩ hG hl => ⟨vl, vh, vp, TLo.good.wide h hG hl⟩
theorem tlx_open (hk : Kept w0 (Pair2 (TLx p b h c D L) X) w) : ∃ vl vh vp, Kept w0 (Pair2 (TLo p b h c D L vl vh vp) X) w := by
  obtain ⟨F, ⟨F1, F2, ⟨vl, vh, vp, h1⟩, h2⟩, h3⟩ := hk
  exact ⟨vl, vh, vp, F, ⟨F1, F2, h1, h2⟩, h3⟩
theorem tlx_close (hk : Kept w0 (Pair2 (TLo p b h c D L vl vh vp) X) w) : Kept w0 (Pair2 (TLx p b h c D L) X) w :=
  kept_cv hk (cvLeft fun _ _ h => ⟨vl, vh, vp, h⟩)
theorem lift_cel {f : FuncId} {args : Array Value} {v : Value} {C' : CellM} (gX : Pk.Good X) (hd : DoesIn w0 f args (CelO p.bd p.bc b h L.C) (RetE v (CelO p.bd p.bc b h C'))) :
    DoesIn w0 f args (Pair2 (TLo p b h c D L vl vh vp) X) (RetE v (Pair2 (TLo p b h c D { L with C := C' } vl vh vp) X)) :=
  ((hd.ret' (DevO.good _ _)).ret (Pair2.good (KeyO.good _ _ _ _) (LrO.good _ _ _ _ _ _ _ _ _))).ret gX
theorem lift_dc {f : FuncId} {args : Array Value} {v : Value} {C' : CellM} (gX : Pk.Good X) (hd : DoesIn w0 f args (Pair2 (DevO p.bd D) (CelO p.bd p.bc b h L.C)) (RetE v (Pair2 (DevO p.bd D') (CelO p.bd p.bc b h C')))) :
    DoesIn w0 f args (Pair2 (TLo p b h c D L vl vh vp) X) (RetE v (Pair2 (TLo p b h c D' { L with C := C' } vl vh vp) X)) :=
  (hd.ret (Pair2.good (KeyO.good _ _ _ _) (LrO.good _ _ _ _ _ _ _ _ _))).ret gX
theorem lift_dev {f : FuncId} {args : Array Value} {v : Value} (gX : Pk.Good X) (hd : DoesIn w0 f args (DevO p.bd D) (RetE v (DevO p.bd D'))) :
    DoesIn w0 f args (Pair2 (TLo p b h c D L vl vh vp) X) (RetE v (Pair2 (TLo p b h c D' L vl vh vp) X)) :=
  ((hd.ret (CelO.good _ _ _ _ _)).ret (Pair2.good (KeyO.good _ _ _ _) (LrO.good _ _ _ _ _ _ _ _ _))).ret gX
theorem lift_key {f : FuncId} {args : Array Value} {v : Value} {u' : Nat} (gX : Pk.Good X) (hd : DoesIn w0 f args (KeyO p.bk c.s c.h L.u) (RetE v (KeyO p.bk c.s c.h u'))) :
    DoesIn w0 f args (Pair2 (TLo p b h c D L vl vh vp) X) (RetE v (Pair2 (TLo p b h c D { L with u := u' } vl vh vp) X)) :=
  ((hd.ret (LrO.good _ _ _ _ _ _ _ _ _)).ret' (Pair2.good (DevO.good _ _) (CelO.good _ _ _ _ _))).ret gX
/-- The log's own things ahead of all others. -/
theorem cvLr : Conv (Pair2 (TLo p b h c D L vl vh vp) X) (Pair2 (LrO p.bl c.o p.bk p.bc L.lv L.pd vl vh vp) (Pair2 (KeyO p.bk c.s c.h L.u) (Pair2 (Pair2 (DevO p.bd D) (CelO p.bd p.bc b h L.C)) X))) :=
  (cvAssoc.trans (cvRight (cvLeft cvSwap))).trans ((cvRight cvAssoc).trans (cvFlip.trans (cvRight cvFlip)))
theorem cvLr' : Conv (Pair2 (LrO p.bl c.o p.bk p.bc L.lv L.pd vl vh vp) (Pair2 (KeyO p.bk c.s c.h L.u) (Pair2 (Pair2 (DevO p.bd D) (CelO p.bd p.bc b h L.C)) X))) (Pair2 (TLo p b h c D L vl vh vp) X) :=
  (((cvRight cvFlip).trans cvFlip).trans (cvRight cvAssoc')).trans ((cvRight (cvLeft cvSwap)).trans cvAssoc')
theorem tl_lr (hk : Kept w0 (Pair2 (TLo p b h c D L vl vh vp) X) w) : ∃ F, LrO p.bl c.o p.bk p.bc L.lv L.pd vl vh vp w F ∧ (∀ k, F k → w0.heap.size ≤ k) ∧ ∀ k, F k → k < w.heap.size := kept_look (kept_cv hk cvLr)
theorem tl_blk (hk : Kept w0 (Pair2 (TLo p b h c D L vl vh vp) X) w) : Pk.Blk w p.bl (lrC c.o p.bk p.bc vl vh vp) 86 := by
  obtain ⟨F, h1, _⟩ := tl_lr hk
  exact h1.blk
/-- What changes the log's own things alone. -/
theorem tl_move {L' : LogM} {ul uh up : Value} (hk : Kept w0 (Pair2 (TLo p b h c D L vl vh vp) X) w) (gX : Pk.Good X) (hC : L'.C = L.C) (hu : L'.u = L.u)
    (hm : ∀ F, LrO p.bl c.o p.bk p.bc L.lv L.pd vl vh vp w F → LrO p.bl c.o p.bk p.bc L'.lv L'.pd ul uh up w' (Ext F w w') ∧ Chg F w w') : Kept w0 (Pair2 (TLo p b h c D L' ul uh up) X) w' := by
  have h1 := kept_move (kept_cv hk cvLr) (Pair2.good (KeyO.good _ _ _ _) (Pair2.good (Pair2.good (DevO.good _ _) (CelO.good _ _ _ _ _)) gX)) hm
  rw [← hC, ← hu] at h1
  exact kept_cv h1 cvLr'
theorem tl_here (hk : Kept w0 (Pair2 (TLo p b h c D L vl vh vp) X) w) (gX : Pk.Good X) (hb : Below w.heap.size w w') : Kept w0 (Pair2 (TLo p b h c D L vl vh vp) X) w' := hk.below (Pair2.good TLo.good gX) hb
end
section
variable {w0 w w' : World} {p : Pl} {b h k : Nat} {c : Cfg} {D : Dev} {L : LogM} {vl vh vp : Value} {X : Pk.Obj}
set_option maxHeartbeats 1600000 in
theorem tcommit_any (gX : Pk.Good X) (hk : Kept w0 (Pair2 (TLo p b h c D L vl vh vp) X) w) (hB : Bd k D L.C) (h99 : k ≤ 99) (n t : ByteArray) (hn : n.size ≤ maxLen) (ht : t.size ≤ maxLen) :
    Calls Tryz.prog 42 #[.pointer (some ⟨p.bl, 0, none⟩), .string n, .string t] w fun e w' => e = .returned (.int .i64 (pcE b h D L.C n.data.toList t.data.toList)) ∧
      Box (Kept w0 (Pair2 (TLo p b h c (pcD b h D L.C n.data.toList t.data.toList) { L with C := pcC b h D L.C n.data.toList t.data.toList } vl vh vp) X) w') := by
  have hPut := kept_step hk (lift_cel gX (put_does p.bd p.bc b h L.C n t hn ht).in_)
  have hb := tl_blk hk
  have c2 : w.cell? ⟨p.bl, 2, none⟩ = some (.pointer (some ⟨p.bc, 0, none⟩)) := hb.cell 2
  obtain ⟨E, hE⟩ : ∃ E, putE L.C.now n.data.toList t.data.toList = E := ⟨_, rfl⟩
  rw [hE] at hPut
  unfold pcE pcD pcC
  rw [hE]
  obtain ⟨bl, hbl⟩ : ∃ bl, p.bl = bl := ⟨_, rfl⟩
  obtain ⟨bc, hbc⟩ : ∃ bc, p.bc = bc := ⟨_, rfl⟩
  have hbB := Box.mk (And.intro hbl hbc)
  by_cases h0 : E = 0
  · subst h0
    rw [if_pos rfl, if_pos rfl, if_pos rfl]
    have hCom := fun w1 (hk1 : Kept w0 (Pair2 (TLo p b h c D { L with C := { L.C with now := putM L.C.now n.data.toList t.data.toList } } vl vh vp) X) w1) =>
      kept_step hk1 (lift_dc gX (commit_does p.bd p.bc b h D { L.C with now := putM L.C.now n.data.toList t.data.toList } (by have := hB.t; omega) hB.f (by have := hB.w; omega) (by have := hB.n; show L.C.num < _; omega)).in_)
    obtain ⟨C1, hC1⟩ : ∃ C1, ({ L.C with now := putM L.C.now n.data.toList t.data.toList } : CellM) = C1 := ⟨_, rfl⟩
    rw [hC1] at hPut hCom ⊢
    obtain ⟨Z, hZ⟩ : ∃ Z, commitE b h D C1 = Z := ⟨_, rfl⟩
    rw [hZ] at hCom ⊢
    have hUn := fun w1 (hk1 : Kept w0 (Pair2 (TLo p b h c (commitD b h D C1) { L with C := commitC b h D C1 } vl vh vp) X) w1) =>
      kept_step hk1 (lift_cel gX (undo_does p.bd p.bc b h (commitC b h D C1)).in_)
    have hb2 := fun w1 (D1 : Dev) (L1 : LogM) (hk1 : Kept w0 (Pair2 (TLo p b h c D1 L1 vl vh vp) X) w1) => (tl_blk hk1).cell 2
    rw [hbl] at c2 hb2 ⊢
    rw [hbc] at c2 hPut hCom hUn
    replace hPut := Box.mk hPut
    replace hCom := Box.mk hCom
    replace hUn := Box.mk hUn
    replace hb2 := Box.mk hb2
    replace hC1 := Box.mk hC1
    replace hZ := Box.mk hZ
    clear hb hbl hbc hn ht hB h99 hE hk
    by_cases hz : Z = 0
    · subst hz
      rw [if_pos rfl]
      go_enter Tryz.func42, Tryz.ntmps42
      go_wp2_with fail
      refine hPut.out.mono ?_
      clear hPut c2
      rintro e w1 ⟨rfl, hk1⟩
      have c2 : w1.cell? ⟨bl, 2, none⟩ = some (.pointer (some ⟨bc, 0, none⟩)) := by rw [← hbB.out.2]; exact hb2.out w1 _ _ hk1.out
      have hF := hCom.out w1 hk1.out
      clear hCom
      go_wp2_with fail
      refine hF.mono ?_
      clear hF c2
      rintro e w2 ⟨rfl, hk2⟩
      go_wp2_with fail
      go_ret
      exact ⟨rfl, hk2⟩
    · rw [if_neg hz]
      have hzb : (Z == 0) = false := by simpa using hz
      go_enter Tryz.func42, Tryz.ntmps42
      go_wp2_with fail
      refine hPut.out.mono ?_
      clear hPut c2
      rintro e w1 ⟨rfl, hk1⟩
      have c2 : w1.cell? ⟨bl, 2, none⟩ = some (.pointer (some ⟨bc, 0, none⟩)) := by rw [← hbB.out.2]; exact hb2.out w1 _ _ hk1.out
      have hF := hCom.out w1 hk1.out
      clear hCom
      go_wp2_with fail
      refine hF.mono ?_
      clear hF c2
      rintro e w2 ⟨rfl, hk2⟩
      have c2 : w2.cell? ⟨bl, 2, none⟩ = some (.pointer (some ⟨bc, 0, none⟩)) := by rw [← hbB.out.2]; exact hb2.out w2 _ _ hk2.out
      have hF := hUn.out w2 hk2.out
      go_wp2_with fail
      refine hF.mono ?_
      clear hF c2
      rintro e w3 ⟨rfl, hk3⟩
      go_wp2_with fail
      go_ret
      exact ⟨rfl, hk3⟩
  · rw [if_neg h0, if_neg h0, if_neg h0]
    have hzb : (E == 0) = false := by simpa using h0
    have hpm : putM L.C.now n.data.toList t.data.toList = L.C.now := by unfold putM; rw [hE, if_neg h0]
    rw [hpm] at hPut
    have hUn := fun w1 (hk1 : Kept w0 (Pair2 (TLo p b h c D L vl vh vp) X) w1) => kept_step hk1 (lift_cel gX (undo_does p.bd p.bc b h L.C).in_)
    have hb2 := fun w1 (D1 : Dev) (L1 : LogM) (hk1 : Kept w0 (Pair2 (TLo p b h c D1 L1 vl vh vp) X) w1) => (tl_blk hk1).cell 2
    rw [hbl] at c2 hb2 ⊢
    rw [hbc] at c2 hPut hUn
    replace hPut := Box.mk hPut
    replace hUn := Box.mk hUn
    replace hb2 := Box.mk hb2
    clear hb hbl hbc hn ht hB h99 hE hk hpm
    go_enter Tryz.func42, Tryz.ntmps42
    go_wp2_with fail
    refine hPut.out.mono ?_
    clear hPut c2
    rintro e w1 ⟨rfl, hk1⟩
    have c2 : w1.cell? ⟨bl, 2, none⟩ = some (.pointer (some ⟨bc, 0, none⟩)) := by rw [← hbB.out.2]; exact hb2.out w1 _ _ hk1.out
    have hF := hUn.out w1 hk1.out
    clear hUn
    go_wp2_with fail
    refine hF.mono ?_
    clear hF c2
    rintro e w2 ⟨rfl, hk2⟩
    go_wp2_with fail
    go_ret
    exact ⟨rfl, hk2⟩
end
end Go.Proofs.YthpfpkikmaiddaaGreatDoor.Tg

namespace Go.Proofs.YthpfpkikmaiddaaGreatDoor.Tg
open Go Go.RowKit Go.Proofs.YthpfpkikmaiddaaGreatDoor.Pk Go.Proofs.YthpfpkikmaiddaaGreatDoor.Nt

/-! ### Of nil -/
section
variable (w : World)
end

/-! ### Of a log -/
section
variable {w0 w : World} {p : Pl} {b h : Nat} {c : Cfg} {D : Dev} {L : LogM} {vl vh vp : Value} {X : Pk.Obj}
/-- A log's rows, as slices. -/
theorem tl_rows (hk : Kept w0 (Pair2 (TLo p b h c D L vl vh vp) X) w) : (∃ a cc, vl = .slice a L.lv.length cc ∧ PA w a L.lv.length cc L.lv) ∧ (∃ a cc, vh = .slice a L.lv.length cc ∧ PA w a L.lv.length cc (L.lv.map leafH)) ∧ ∃ a cc, vp = .slice a L.pd.length cc ∧ PA w a L.pd.length cc L.pd := by
  obtain ⟨F, h1, _⟩ := tl_lr hk
  refine ⟨txr_pa h1.rl, ?_, txr_pa h1.rp⟩
  have := txr_pa h1.rh
  rwa [List.length_map] at this
set_option maxHeartbeats 800000 in
theorem tsize_any (hk : Kept w0 (Pair2 (TLo p b h c D L vl vh vp) X) w) :
    Calls Tryz.prog 16 #[.pointer (some ⟨p.bl, 0, none⟩)] w fun e w' => e = .returned (.int .i64 (L.lv.length : Int)) ∧ w = w' := by
  obtain ⟨⟨a, cc, rfl, _⟩, _, _⟩ := tl_rows hk
  have c3 : w.cell? ⟨p.bl, 3, none⟩ = some (.slice a L.lv.length cc) := (tl_blk hk).cell 3
  obtain ⟨bl, hbl⟩ : ∃ x, p.bl = x := ⟨_, rfl⟩
  obtain ⟨n, hn⟩ : ∃ x, L.lv.length = x := ⟨_, rfl⟩
  rw [hbl, hn] at c3
  rw [hbl, hn]
  clear hk hbl hn
  go_enter Tryz.func16, Tryz.ntmps16
  go_wp2_with fail
  go_ret
  exact ⟨rfl, rfl⟩
set_option maxHeartbeats 800000 in
theorem tpend_any (hk : Kept w0 (Pair2 (TLo p b h c D L vl vh vp) X) w) :
    Calls Tryz.prog 17 #[.pointer (some ⟨p.bl, 0, none⟩)] w fun e w' => e = .returned (.int .i64 (L.pd.length : Int)) ∧ w = w' := by
  obtain ⟨_, _, a, cc, rfl, _⟩ := tl_rows hk
  have c3 : w.cell? ⟨p.bl, 5, none⟩ = some (.slice a L.pd.length cc) := (tl_blk hk).cell 5
  obtain ⟨bl, hbl⟩ : ∃ x, p.bl = x := ⟨_, rfl⟩
  obtain ⟨n, hn⟩ : ∃ x, L.pd.length = x := ⟨_, rfl⟩
  rw [hbl, hn] at c3
  rw [hbl, hn]
  clear hk hbl hn
  go_enter Tryz.func17, Tryz.ntmps17
  go_wp2_with fail
  go_ret
  exact ⟨rfl, rfl⟩
/-- What Leaf answers. -/
def leafV (l : List ByteArray) (i : Int) : Value := if 0 ≤ i ∧ i < (l.length : Int) then .tuple #[.string (l.getD i.toNat ByteArray.empty), .int .i64 0] else .tuple #[.string ⟨#[]⟩, .int .i64 5]
set_option maxHeartbeats 800000 in
theorem tleaf_log (hk : Kept w0 (Pair2 (TLo p b h c D L vl vh vp) X) w) (i : Int) :
    Calls Tryz.prog 18 #[.pointer (some ⟨p.bl, 0, none⟩), .int .i64 i] w fun e w' => e = .returned (leafV L.lv i) ∧ w = w' := by
  have hS := tsize_any hk
  obtain ⟨⟨a, cc, rfl, hP⟩, _, _⟩ := tl_rows hk
  have c3 : w.cell? ⟨p.bl, 3, none⟩ = some (.slice a L.lv.length cc) := (tl_blk hk).cell 3
  obtain ⟨bl, hbl⟩ : ∃ x, p.bl = x := ⟨_, rfl⟩
  rw [hbl] at hS c3 ⊢
  have hcap := hP.cap
  unfold leafV
  by_cases hi : 0 ≤ i ∧ i < (L.lv.length : Int)
  · obtain ⟨j, rfl⟩ : ∃ j : Nat, i = j := ⟨i.toNat, by omega⟩
    rw [if_pos hi, Int.toNat_natCast]
    obtain ⟨blk, off, rfl, hlt, hcell⟩ := hP.at_ (by omega)
    have hc := hcell j (by omega)
    obtain ⟨x, hx⟩ : ∃ x, L.lv.getD j ByteArray.empty = x := ⟨_, rfl⟩
    rw [hx] at hc ⊢
    obtain ⟨n, hn⟩ : ∃ x, L.lv.length = x := ⟨_, rfl⟩
    rw [hn] at hS c3 hi hcap
    have hjn : j < n := by omega
    have h0 : ¬ (j : Int) < 0 := by omega
    have h1 : ¬ (j : Int) ≥ (n : Int) := by omega
    clear hk hbl hP hcell hx hn hi
    go_enter Tryz.func18, Tryz.ntmps18
    go_wp2_with fail
    refine hS.mono ?_
    clear hS
    rintro e w1 ⟨rfl, rfl⟩
    go_wp2_with fail
    go_returns
    exact ⟨rfl, rfl⟩
  · rw [if_neg hi]
    obtain ⟨n, hn⟩ : ∃ x, L.lv.length = x := ⟨_, rfl⟩
    rw [hn] at hS hi
    clear hk hbl hP hn c3 hcap
    by_cases h0 : i < 0
    · go_enter Tryz.func18, Tryz.ntmps18
      go_wp2_with fail
      go_returns
      exact ⟨rfl, rfl⟩
    · have h1 : i ≥ (n : Int) := by omega
      clear hi
      go_enter Tryz.func18, Tryz.ntmps18
      go_wp2_with fail
      refine hS.mono ?_
      clear hS
      rintro e w1 ⟨rfl, rfl⟩
      go_wp2_with fail
      go_returns
      exact ⟨rfl, rfl⟩
set_option maxHeartbeats 800000 in
theorem tleft_any (hk : Kept w0 (Pair2 (TLo p b h c D L vl vh vp) X) w) (gX : Pk.Good X) (hu : L.u ≤ 2 ^ c.h) :
    Calls Tryz.prog 33 #[.pointer (some ⟨p.bl, 0, none⟩)] w fun e w' => e = .returned (.int .i64 ((2 ^ c.h - L.u : Nat) : Int)) ∧ Box (Kept w0 (Pair2 (TLo p b h c D L vl vh vp) X) w') := by
  have hF := kept_step hk (lift_key gX (kleft_does hu))
  have c1 : w.cell? ⟨p.bl, 1, none⟩ = some (.pointer (some ⟨p.bk, 0, none⟩)) := (tl_blk hk).cell 1
  obtain ⟨bl, hbl⟩ : ∃ x, p.bl = x := ⟨_, rfl⟩
  obtain ⟨bk, hbk⟩ : ∃ x, p.bk = x := ⟨_, rfl⟩
  obtain ⟨n, hn⟩ : ∃ x : Int, ((2 ^ c.h - L.u : Nat) : Int) = x := ⟨_, rfl⟩
  rw [hbl, hbk] at c1
  rw [hbk, hn] at hF
  rw [hbl, hn]
  replace hF := Box.mk hF
  clear hk hbl hbk hn hu
  go_enter Tryz.func33, Tryz.ntmps33
  go_wp2_with fail
  refine hF.out.mono ?_
  clear hF
  rintro e w1 ⟨rfl, hk1⟩
  go_wp2_with fail
  go_ret
  exact ⟨rfl, hk1⟩
set_option maxHeartbeats 800000 in
theorem tnote_any (hk : Kept w0 (Pair2 (TLo p b h c D L vl vh vp) X) w) (gX : Pk.Good X) :
    Calls Tryz.prog 45 #[.pointer (some ⟨p.bl, 0, none⟩)] w fun e w' => e = .returned (.string (noT L.C.now)) ∧ Box (Kept w0 (Pair2 (TLo p b h c D L vl vh vp) X) w') := by
  have hF := kept_step hk (lift_cel gX (get_does p.bd p.bc b h L.C ⟨#[110, 111, 116, 101]⟩ (by decide)).in_)
  have c1 : w.cell? ⟨p.bl, 2, none⟩ = some (.pointer (some ⟨p.bc, 0, none⟩)) := (tl_blk hk).cell 2
  have hv : getV L.C.now (⟨#[110, 111, 116, 101]⟩ : ByteArray).data.toList = .tuple #[.string (noT L.C.now), .bool (getC L.C.now nNo).isSome] := rfl
  rw [hv] at hF
  obtain ⟨bl, hbl⟩ : ∃ x, p.bl = x := ⟨_, rfl⟩
  obtain ⟨bk, hbk⟩ : ∃ x, p.bc = x := ⟨_, rfl⟩
  obtain ⟨n, hn⟩ : ∃ x, noT L.C.now = x := ⟨_, rfl⟩
  obtain ⟨y, hy⟩ : ∃ x, (getC L.C.now nNo).isSome = x := ⟨_, rfl⟩
  rw [hbl, hbk] at c1
  rw [hbk, hn, hy] at hF
  rw [hbl, hn]
  replace hF := Box.mk hF
  clear hk hbl hbk hn hv hy
  go_enter Tryz.func45, Tryz.ntmps45
  go_wp2_with fail
  refine hF.out.mono ?_
  clear hF
  rintro e w1 ⟨rfl, hk1⟩
  go_wp2_with fail
  go_ret
  exact ⟨rfl, hk1⟩
/-- The size that the last note's checkpoint says, below 0 where there is none. -/
def issI (ct : Ct) : Int := match pCk (rdT (noT ct)).data.toList with
  | some k => k.n
  | none => -1
theorem issI_isB (ct : Ct) (n : Nat) : issI ct = (n : Int) ↔ isB ct n = true := by
  unfold issI isB
  cases pCk (rdT (noT ct)).data.toList with
  | none => simp <;> omega
  | some k => simp
theorem noT_size {ct : Ct} (h : ct.ok) : (noT ct).size ≤ 65535 := by unfold noT ctT; rw [mk_size]; exact ct_len h _
theorem rdT_size (s : ByteArray) : (rdT s).size ≤ s.size := by
  cases hr : rdN s.data.toList with
  | none => rw [(rd_none hr).1]; exact Nat.zero_le _
  | some n =>
    obtain ⟨h1, _, _⟩ := rd_some hr
    have h2 := (rdN_some hr).2
    have h3 := congrArg List.length h2
    rw [h1]
    unfold byN at h3
    rw [List.length_append, Pk.data_len, Pk.data_len] at h3
    omega
theorem celo_ok (hk : Kept w0 (Pair2 (TLo p b h c D L vl vh vp) X) w) : L.C.ok b h := by
  obtain ⟨F, ⟨_, _, ⟨_, _, ⟨_, _, _, h1, _⟩, _⟩, _⟩, _⟩ := hk
  exact h1.ok
set_option maxHeartbeats 1600000 in
theorem tissued_any (hE : Env w0) (hk : Kept w0 (Pair2 (TLo p b h c D L vl vh vp) X) w) (gX : Pk.Good X) :
    Calls Tryz.prog 44 #[.pointer (some ⟨p.bl, 0, none⟩)] w fun e w' => e = .returned (.int .i64 (issI L.C.now)) ∧ Box (Kept w0 (Pair2 (TLo p b h c D L vl vh vp) X) w') := by
  have hF := tnote_any hk gX
  have hsz := noT_size (celo_ok hk).now
  have hrs := rdT_size (noT L.C.now)
  have hRd := fun w1 (hk1 : Kept w0 (Pair2 (TLo p b h c D L vl vh vp) X) w1) => Nt.read_any (noT L.C.now) w0.heap.size w1 (hE.nlAt hk1.k) hk1.k.size (by omega)
  have hPr := fun w1 (hb : Below w0.heap.size w0 w1) => Nt.parse_any (rdT (noT L.C.now)) w0.heap.size w1 (hE.nlAt hb) hb.size (by omega)
  unfold issI
  obtain ⟨s, hs⟩ : ∃ s, noT L.C.now = s := ⟨_, rfl⟩
  rw [hs] at hF hRd hPr ⊢
  obtain ⟨T, hT⟩ : ∃ T, rdT s = T := ⟨_, rfl⟩
  have hRd2 : Box (∀ w1, Kept w0 (Pair2 (TLo p b h c D L vl vh vp) X) w1 → Calls Tryz.prog 92 #[.string s] w1 fun e w' => ∃ a n cc E, e = .returned (.tuple #[.agg #[.string T, .slice a n cc], .int .i64 E]) ∧ Below w1.heap.size w1 w') := ⟨fun w1 hk1 => (hRd w1 hk1).mono fun e w' ⟨v, he, hR⟩ => by
    obtain ⟨a, cc, rfl, _⟩ := hR.sigs.ex
    exact ⟨a, _, cc, rdE s, hT ▸ he, hR.bel⟩⟩
  rw [hT] at hPr ⊢
  replace hPr := Box.mk hPr
  replace hF := Box.mk hF
  clear hk hsz hrs hRd hs hT hE
  obtain ⟨bl, hbl⟩ : ∃ x, p.bl = x := ⟨_, rfl⟩
  rw [hbl] at hF ⊢
  have hgX := Box.mk gX
  clear hbl gX
  cases hp : pCk T.data.toList with
  | none =>
    have hv := prV_none hp
    simp only [hv] at hPr
    clear hp hv
    go_enter Tryz.func44, Tryz.ntmps44
    go_wp2_with fail
    refine hF.out.mono ?_
    clear hF
    rintro e w1 ⟨rfl, hk1⟩
    have hG := hRd2.out w1 hk1.out
    clear hRd2
    go_wp2_with fail
    refine hG.mono ?_
    clear hG
    rintro e w2 ⟨a, n, cc, E, rfl, hb2⟩
    have hk2 := Box.mk (tl_here hk1.out hgX.out hb2)
    have hk3 := Box.mk (tl_here hk2.out hgX.out (bel_alloc w2 (.cells #[.string T, .slice a n cc] 120)))
    have hG := hPr.out _ hk3.out.k
    clear hk1 hb2 hPr
    go_wp2_with fail
    refine hG.mono ?_
    clear hG
    rintro e w4 ⟨rfl, hb4⟩
    have hk4 := Box.mk (tl_here hk3.out hgX.out hb4)
    have hk5 := Box.mk (tl_here hk4.out hgX.out (bel_alloc w4 (.cells #[.string ⟨#[]⟩, .int .i64 0, .string ⟨#[]⟩] 109)))
    clear hb4
    go_wp2_with fail
    go_ret
    exact ⟨rfl, hk5⟩
  | some k =>
    have hv := prV_some hp
    simp only [hv] at hPr
    obtain ⟨ko, kn, kr⟩ := k
    clear hp hv
    go_enter Tryz.func44, Tryz.ntmps44
    go_wp2_with fail
    refine hF.out.mono ?_
    clear hF
    rintro e w1 ⟨rfl, hk1⟩
    have hG := hRd2.out w1 hk1.out
    clear hRd2
    go_wp2_with fail
    refine hG.mono ?_
    clear hG
    rintro e w2 ⟨a, n, cc, E, rfl, hb2⟩
    have hk2 := Box.mk (tl_here hk1.out hgX.out hb2)
    have hk3 := Box.mk (tl_here hk2.out hgX.out (bel_alloc w2 (.cells #[.string T, .slice a n cc] 120)))
    have hG := hPr.out _ hk3.out.k
    clear hk1 hb2 hPr
    go_wp2_with fail
    refine hG.mono ?_
    clear hG
    rintro e w4 ⟨rfl, hb4⟩
    have hk4 := Box.mk (tl_here hk3.out hgX.out hb4)
    have hk5 := Box.mk (tl_here hk4.out hgX.out (bel_alloc w4 (.cells #[.string ko, .int .i64 kn, .string kr] 109)))
    clear hb4
    go_wp2_with fail
    go_ret
    exact ⟨rfl, hk5⟩
end
end Go.Proofs.YthpfpkikmaiddaaGreatDoor.Tg
