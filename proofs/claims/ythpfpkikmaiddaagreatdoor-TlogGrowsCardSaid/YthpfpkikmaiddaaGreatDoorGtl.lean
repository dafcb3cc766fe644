/- read: what stands in a region. | Open of a log. | What stands under a path: the last note, a leaf. -/
import Derived.Test.YthpfpkikmaiddaaGreatDoorGti
import Derived.Test.YthpfpkikmaiddaaGreatDoorGl1
set_option linter.all false
set_option linter.unusedVariables false
set_option linter.unusedSimpArgs false
namespace Go.Proofs.YthpfpkikmaiddaaGreatDoor.Tg
open Go Go.RowKit Go.Proofs.YthpfpkikmaiddaaGreatDoor.Pk Go.Proofs.YthpfpkikmaiddaaGreatDoor.Nt

section
variable {w0 w : World} {bd bc b h : Nat} {C : CellM} {Y : Pk.Obj}
theorem kept_row {w w' : World} {O : Pk.Obj} {v : Value} {P : List ByteArray} (hk : Kept w0 O w) (g : Pk.Good O) (hb : Below w.heap.size w w') (hR : TxR w.heap.size w' v P) : Kept w0 (Pair2 (RowO v P) O) w' :=
  kept_new hk g (RowO.good _ _) hb ⟨TxR.base hR (Nat.zero_le _), fun k hk => hR.own k hk, fun _ hk => hk.2⟩
def RdI (w0 : World) (bd bc b h : Nat) (C : CellM) (Y : Pk.Obj) : Ending → World → Prop := fun e w' => match spL (ctB C.now nLv) with
  | none => e = .returned (.tuple #[.slice none 0 0, .int .i64 0, .bool false]) ∧ Box (Kept w0 (Pair2 (CelO bd bc b h C) Y) w')
  | some ls => ∃ a cc, e = .returned (.tuple #[.slice a ls.length cc, .int .i64 (usI C.now), .bool (usK C.now)]) ∧ Box (Kept w0 (Pair2 (RowO (.slice a ls.length cc) ls) (Pair2 (CelO bd bc b h C) Y)) w')
theorem ctT_list (c : Ct) (n : Bs) : (ctT c n).data.toList = ctB c n := by unfold ctT; rw [mk_list]
set_option maxHeartbeats 1600000 in
theorem tread_any (gY : Pk.Good Y) (hk : Kept w0 (Pair2 (CelO bd bc b h C) Y) w) (hok : C.ok b h) :
    Calls Tryz.prog 37 #[.pointer (some ⟨bc, 0, none⟩)] w (RdI w0 bd bc b h C Y) := by
  have g0 : Pk.Good (Pair2 (CelO bd bc b h C) Y) := Pair2.good (CelO.good _ _ _ _ _) gY
  have hF := kept_step hk ((get_does bd bc b h C ⟨#[108, 101, 97, 118, 101, 115]⟩ (by decide)).in_.ret gY)
  have hv : getV C.now (⟨#[108, 101, 97, 118, 101, 115]⟩ : ByteArray).data.toList = .tuple #[.string (ctT C.now nLv), .bool (getC C.now nLv).isSome] := rfl
  rw [hv] at hF
  have hU : Box (∀ O w1, Pk.Good O → Kept w0 (Pair2 (CelO bd bc b h C) O) w1 → Calls Tryz.prog 81 #[.pointer (some ⟨bc, 0, none⟩), .string ⟨#[117, 115, 101, 100]⟩] w1 fun e w' => e = .returned (.tuple #[.string (ctT C.now nUs), .bool (getC C.now nUs).isSome]) ∧ Box (Kept w0 (Pair2 (CelO bd bc b h C) O) w')) :=
    ⟨fun O w1 g hk1 => kept_step hk1 ((get_does bd bc b h C ⟨#[117, 115, 101, 100]⟩ (by decide)).in_.ret g)⟩
  have hsz : (ctT C.now nLv).size ≤ 1000000 := by unfold ctT; rw [mk_size]; have := ct_len hok.now nLv; omega
  have hR := fun w1 => readLeaves_any (ctT C.now nLv) w1 hsz
  rw [ctT_list] at hR
  have hUr := fun w1 => readUsed_any (ctT C.now nUs) w1
  rw [ctT_list] at hUr
  unfold RdI
  obtain ⟨s, hs⟩ : ∃ s, ctT C.now nLv = s := ⟨_, rfl⟩
  rw [hs] at hF hR
  obtain ⟨y, hy⟩ : ∃ x, (getC C.now nLv).isSome = x := ⟨_, rfl⟩
  rw [hy] at hF
  obtain ⟨S, hS⟩ : ∃ S, ctB C.now nLv = S := ⟨_, rfl⟩
  rw [hS] at hR ⊢
  replace hF := Box.mk hF
  replace hR := Box.mk hR
  replace g0 := Box.mk g0
  replace gY := Box.mk gY
  by_cases hd : (spR S).2 = 0 ∧ (spR S).1.length ≤ 1024
  · have hL : spL S = some (spR S).1 := by unfold spL; rw [if_pos hd]
    have hdd : decide ((spR S).2 = 0 ∧ (spR S).1.length ≤ 1024) = true := by simp [hd]
    unfold RlI at hR
    rw [hdd] at hR
    rw [hL]
    obtain ⟨ls, hls⟩ : ∃ ls, (spR S).1 = ls := ⟨_, rfl⟩
    rw [hls] at hR ⊢
    cases hu : getC C.now nUs with
    | none =>
      obtain ⟨h1, h2⟩ := us_none hu
      rw [h1, h2]
      have hU2 : Box (∀ O w1, Pk.Good O → Kept w0 (Pair2 (CelO bd bc b h C) O) w1 → Calls Tryz.prog 81 #[.pointer (some ⟨bc, 0, none⟩), .string ⟨#[117, 115, 101, 100]⟩] w1 fun e w' => ∃ t, e = .returned (.tuple #[.string t, .bool false]) ∧ Box (Kept w0 (Pair2 (CelO bd bc b h C) O) w')) :=
        ⟨fun O w1 g hk1 => (hU.out O w1 g hk1).mono fun e w' ⟨he, hk2⟩ => ⟨ctT C.now nUs, by rw [he, hu]; rfl, hk2⟩⟩
      clear hk hsz hs hy hS hd hL hdd hls hUr hU hu h1 h2 hv hok
      go_enter Tryz.func37, Tryz.ntmps37
      go_wp2_with fail
      refine hF.out.mono ?_
      clear hF
      rintro e w1 ⟨rfl, hk1⟩
      have hG := hR.out w1
      clear hR
      go_wp2_with fail
      refine hG.mono ?_
      clear hG
      rintro e w2 ⟨v, rfl, hT2, hb2⟩
      obtain ⟨a, cc, rfl⟩ := hT2.shape
      obtain ⟨N, hN⟩ : ∃ N, ls.length = N := ⟨_, rfl⟩
      have hk2 := kept_row hk1.out g0.out hb2 hT2
      rw [hN] at hk2
      have hk3 : Kept w0 (Pair2 (CelO bd bc b h C) (Pair2 (RowO (.slice a N cc) ls) Y)) w2 := kept_cv hk2 cvFlip
      have hG := hU2.out _ w2 (Pair2.good (RowO.good _ _) gY.out) hk3
      clear hU2 hk2 hk3 hT2 hb2 hk1
      go_wp2_with fail
      refine hG.mono ?_
      clear hG
      rintro e w3 ⟨t, rfl, hk4⟩
      go_wp2_with fail
      go_returns
      subst hN
      exact ⟨a, cc, rfl, ⟨kept_cv hk4.out cvFlip⟩⟩
    | some x =>
      have h1 : usI C.now = (numR 4 (ctB C.now nUs) 0).1 := by unfold usI ctB; rw [hu]; rfl
      have h2 : usK C.now = decide (endE (numR 4 (ctB C.now nUs) 0).2.1 (numR 4 (ctB C.now nUs) 0).2.2 = 0) := by unfold usK ctB; rw [hu]; rfl
      rw [← h1, ← h2] at hUr
      obtain ⟨t, ht⟩ : ∃ s, ctT C.now nUs = s := ⟨_, rfl⟩
      rw [ht] at hUr
      obtain ⟨ui, hui⟩ : ∃ s, usI C.now = s := ⟨_, rfl⟩
      obtain ⟨uk, huk⟩ : ∃ s, usK C.now = s := ⟨_, rfl⟩
      rw [hui, huk] at hUr
      rw [hui, huk]
      have hU2 : Box (∀ O w1, Pk.Good O → Kept w0 (Pair2 (CelO bd bc b h C) O) w1 → Calls Tryz.prog 81 #[.pointer (some ⟨bc, 0, none⟩), .string ⟨#[117, 115, 101, 100]⟩] w1 fun e w' => e = .returned (.tuple #[.string t, .bool true]) ∧ Box (Kept w0 (Pair2 (CelO bd bc b h C) O) w')) :=
        ⟨fun O w1 g hk1 => (hU.out O w1 g hk1).mono fun e w' ⟨he, hk2⟩ => ⟨by rw [he, hu, ht]; rfl, hk2⟩⟩
      replace hUr := Box.mk hUr
      clear hk hsz hs hy hS hd hL hdd hls hU hu h1 h2 hv hok ht hui huk
      go_enter Tryz.func37, Tryz.ntmps37
      go_wp2_with fail
      refine hF.out.mono ?_
      clear hF
      rintro e w1 ⟨rfl, hk1⟩
      have hG := hR.out w1
      clear hR
      go_wp2_with fail
      refine hG.mono ?_
      clear hG
      rintro e w2 ⟨v, rfl, hT2, hb2⟩
      obtain ⟨a, cc, rfl⟩ := hT2.shape
      obtain ⟨N, hN⟩ : ∃ N, ls.length = N := ⟨_, rfl⟩
      have hk2 := kept_row hk1.out g0.out hb2 hT2
      rw [hN] at hk2
      have hk3 : Kept w0 (Pair2 (CelO bd bc b h C) (Pair2 (RowO (.slice a N cc) ls) Y)) w2 := kept_cv hk2 cvFlip
      have hG := hU2.out _ w2 (Pair2.good (RowO.good _ _) gY.out) hk3
      clear hU2 hk2 hk3 hT2 hb2 hk1
      go_wp2_with fail
      refine hG.mono ?_
      clear hG
      rintro e w3 ⟨rfl, hk4⟩
      have hG := hUr.out w3
      clear hUr
      go_wp2_with fail
      refine hG.mono ?_
      clear hG
      rintro e w5 ⟨rfl, hb5⟩
      have hk5 := Box.mk (hk4.out.below (Pair2.good (CelO.good _ _ _ _ _) (Pair2.good (RowO.good _ _) gY.out)) hb5)
      clear hb5 hk4
      go_wp2_with fail
      go_returns
      subst hN
      exact ⟨a, cc, rfl, ⟨kept_cv hk5.out cvFlip⟩⟩
  · have hL : spL S = none := by unfold spL; rw [if_neg hd]
    have hdd : decide ((spR S).2 = 0 ∧ (spR S).1.length ≤ 1024) = false := by simp only [hd, decide_false]
    unfold RlI at hR
    rw [hdd] at hR
    rw [hL]
    clear hk hsz hs hy hS hd hL hdd hU hUr hv hok
    go_enter Tryz.func37, Tryz.ntmps37
    go_wp2_with fail
    refine hF.out.mono ?_
    clear hF
    rintro e w1 ⟨rfl, hk1⟩
    have hG := hR.out w1
    clear hR
    go_wp2_with fail
    refine hG.mono ?_
    clear hG
    rintro e w2 ⟨v, rfl, hT2, hb2⟩
    have hk2 := Box.mk (hk1.out.below g0.out hb2)
    clear hT2 hb2
    go_wp2_with fail
    go_returns
    exact ⟨rfl, hk2⟩
end
end Go.Proofs.YthpfpkikmaiddaaGreatDoor.Tg

namespace Go.Proofs.YthpfpkikmaiddaaGreatDoor.Tg
open Go Go.RowKit Go.Proofs.YthpfpkikmaiddaaGreatDoor.Pk Go.Proofs.YthpfpkikmaiddaaGreatDoor.Nt

section
variable {A B C E : Pk.Obj}
/-- What lies behind is dropped. -/
theorem cvDropL (gC : Pk.Good C) : Conv (Pair2 B C) C := fun _ _ ⟨_, _, _, h2, _, _, e2, hl⟩ => gC.wide h2 e2 hl
end
def cfgV (o s : ByteArray) (h : Int) : Value := .agg #[.string o, .string s, .int .i64 h]
section
variable {w0 w : World} {bd b h : Nat} {c : Cfg} {D : Dev} {M : CellM} {X : Pk.Obj} {ls : List ByteArray}
theorem pa0 (w : World) : PA w none 0 0 [] := ⟨rfl, Nat.le_refl _, by omega, fun h => absurd h (Nat.lt_irrefl 0)⟩
theorem fit_nil : Fit [] := fun x hx => by cases hx
theorem gC_nil (M : CellM) (hc : c.ok) : gC ⟨c.o, 0, rootL []⟩ = true :=
  gC_of (L := ⟨M, 0, [], []⟩) hc ⟨fun x hx => by simp at hx, by simp, by simp [lvB], Nat.zero_le _⟩
theorem opn_key {w1 w2 : World} {O : Pk.Obj} (hk1 : Kept w0 O w1) (g : Pk.Good O) (hA : KeyAt w2 w1.heap.size none c.s c.h 0) (hb : Below w1.heap.size w1 w2) : Kept w0 (Pair2 (KeyO w1.heap.size c.s c.h 0) O) w2 :=
  kept_new hk1 g (KeyO.good _ _ _ _) hb ⟨⟨none, hA, ⟨Nat.le_refl _, hA.blk.lt⟩, fun t e => by cases e⟩, fun _ hk => hk.2⟩
theorem opn_log {w : World} {bk bc N : Nat} {u : Nat} {cc : Nat} {a : Option Addr} {Z : Pk.Obj} (gZ : Pk.Good Z) (hk : Kept w0 (Pair2 (KeyO bk c.s c.h u) (Pair2 (RowO (.slice a N cc) ls) (Pair2 (CelO bd bc b h M) (Pair2 (DevO bd D) Z)))) w) :
    Kept w0 (Pair2 (TLo ⟨bd, w.heap.size, bc, bk⟩ b h c D ⟨M, u, [], []⟩ (.slice none 0 0) (.slice none 0 0) (.slice none 0 0)) (Pair2 (RowO (.slice a N cc) ls) Z)) (w.alloc (.cells (lrC c.o bk bc (.slice none 0 0) (.slice none 0 0) (.slice none 0 0)).toArray 86)) := by
  have gB : Pk.Good (Pair2 (KeyO bk c.s c.h u) (Pair2 (RowO (.slice a N cc) ls) (Pair2 (CelO bd bc b h M) (Pair2 (DevO bd D) Z)))) :=
    Pair2.good (KeyO.good _ _ _ _) (Pair2.good (RowO.good _ _) (Pair2.good (CelO.good _ _ _ _ _) (Pair2.good (DevO.good _ _) gZ)))
  have hn := kept_new hk gB (LrO.good w.heap.size c.o bk bc [] [] (.slice none 0 0) (.slice none 0 0) (.slice none 0 0)) (bel_alloc w (.cells (lrC c.o bk bc (.slice none 0 0) (.slice none 0 0) (.slice none 0 0)).toArray 86))
    ⟨Pk.Blk.new w (lrC c.o bk bc (.slice none 0 0) (.slice none 0 0) (.slice none 0 0)) _, TxR.nil _ _, TxR.nil _ _, TxR.nil _ _, ⟨Nat.le_refl _, (Pk.Blk.new w (lrC c.o bk bc (.slice none 0 0) (.slice none 0 0) (.slice none 0 0)) _).lt⟩, fun i e => (by cases e), fun i e => (by cases e), fun i e => (by cases e), fun i e => (by cases e), fun i e => (by cases e), fun i e => (by cases e), fun _ hk => hk.2⟩
  refine kept_cv hn (Conv.trans (cvRight (cvRight ?_)) (cvLr' (p := ⟨bd, w.heap.size, bc, bk⟩) (L := ⟨M, u, [], []⟩)))
  -- Row (Cel (Dev Z)) to (Dev Cel) (Row Z)
  exact (cvRight (cvAssoc'.trans (cvLeft cvSwap))).trans cvFlip
set_option maxHeartbeats 6400000 in
set_option maxRecDepth 100000 in
theorem topen_any (hE : Env w0) (gX : Pk.Good X) (hk : Kept w0 (Pair2 (DevO bd D) X) w) (hc : c.ok) (hoff : D.off = false) (h2 : 2 ≤ h) (hin : b + 2 * h ≤ D.safe.length) (hM : openN D.seen b h = (M.num, M.was, M.last)) (hMn : M.now = M.was) (hMo : M.off = false) (hok : M.ok b h)
    (hls : spL (ctB M.now nLv) = some ls) (hus : usK M.now = true) :
    Calls Tryz.prog 9 #[.pointer (some ⟨bd, 0, none⟩), .int .i64 (b : Int), .int .i64 (h : Int), cfgV c.o c.s (c.h : Int)] w fun e w' => ∃ bl bc bk, e = .returned (.tuple #[.pointer (some ⟨bl, 0, none⟩), .int .i64 0]) ∧ Box (Kept w0 (Pair2 (TLx ⟨bd, bl, bc, bk⟩ b h c D ⟨M, skipN 0 (usI M.now) c.h, ls, []⟩) X) w') := by
  have g1 : Pk.Good (Pair2 (DevO bd D) X) := Pair2.good (DevO.good _ _) gX
  have g2 : ∀ bx, Pk.Good (Pair2 (BlO bx [.string c.o, .string c.s, .int .i64 (c.h : Int)] 33) (Pair2 (DevO bd D) X)) := fun bx => Pair2.good (BlO.good _ _ _) g1
  have hk1 := kept_new hk g1 (BlO.good w.heap.size [.string c.o, .string c.s, .int .i64 (c.h : Int)] 33) (bel_alloc w (.cells #[.string c.o, .string c.s, .int .i64 (c.h : Int)] 33))
    ⟨Pk.Blk.new w [.string c.o, .string c.s, .int .i64 (c.h : Int)] _, ⟨Nat.le_refl _, (Pk.Blk.new w [.string c.o, .string c.s, .int .i64 (c.h : Int)] _).lt⟩, fun _ hk => hk.2⟩
  obtain ⟨bx, hbx⟩ : ∃ x, w.heap.size = x := ⟨_, rfl⟩
  rw [hbx] at hk1
  obtain ⟨FB, hB1, _⟩ := kept_look hk1
  have cs0 : (w.alloc (.cells #[.string c.o, .string c.s, .int .i64 (c.h : Int)] 33)).cell? ⟨bx, 1, none⟩ = some (.string c.s) := hB1.1.cell 1
  have cs1 : (w.alloc (.cells #[.string c.o, .string c.s, .int .i64 (c.h : Int)] 33)).cell? ⟨bx, 2, none⟩ = some (.int .i64 (c.h : Int)) := hB1.1.cell 2
  have hN := Box.mk (fun w1 => new_ok c.s c.h w1 hc.h)
  have hP : Box (∀ w1, Below w0.heap.size w0 w1 → Calls Tryz.prog 35 #[.string c.o, .slice none 0 0] w1 fun e w' => e = .returned (.tuple #[.string (ckT ⟨c.o, 0, rootL []⟩), .int .i64 0]) ∧ Below w1.heap.size w1 w') := ⟨fun w1 hb => by
    have := point_any c.o [] none 0 0 w0.heap.size w1 (hE.nlAt hb) hb.size (hE.kisAt hb) (pa0 w1) fit_nil (by have := gO_size hc.o; omega)
    rw [show ((0 : Nat) : Int) = 0 from rfl, txtV_yes (gC_nil M hc)] at this
    exact this⟩
  obtain ⟨PT, hPT⟩ : ∃ x, ckT ⟨c.o, 0, rootL []⟩ = x := ⟨_, rfl⟩
  rw [hPT] at hP
  have hO := Box.mk (fun (O : Pk.Obj) w1 (g : Pk.Good O) (hk1 : Kept w0 (Pair2 (DevO bd D) O) w1) => Kept.opens hk1 g M hoff h2 hin hM hMn hMo hok)
  have hR := Box.mk (fun (Y : Pk.Obj) bc w1 (g : Pk.Good Y) (hk1 : Kept w0 (Pair2 (CelO bd bc b h M) Y) w1) => tread_any g hk1 hok)
  unfold RdI at hR
  rw [hls, hus] at hR
  obtain ⟨ui, hui⟩ : ∃ x, usI M.now = x := ⟨_, rfl⟩
  rw [hui] at hR ⊢
  have hlim := spL_some hls
  replace hlim := Box.mk hlim
  have hcB := Box.mk hc
  clear hPT hoff h2 hin hM hMn hMo hok hls hus hui hc
  clear hk hB1
  replace hk1 := Box.mk hk1
  unfold cfgV
  go_enter Tryz.func9, Tryz.ntmps9
  go_wp2_with fail
  refine (hN.out _).mono ?_
  clear hN
  rintro e w2 ⟨rfl, hA2, hb2⟩
  have hk2 := opn_key hk1.out (g2 bx) hA2 hb2
  obtain ⟨bk, hbk⟩ : ∃ x, (w.alloc (.cells #[.string c.o, .string c.s, .int .i64 (c.h : Int)] 33)).heap.size = x := ⟨_, rfl⟩
  rw [hbk] at hk2 ⊢
  obtain ⟨FB, hB1, _⟩ := kept_look (kept_cv hk2 cvFlip)
  have cs0 : w2.cell? ⟨bx, 0, none⟩ = some (.string c.o) := hB1.1.cell 0
  have hG := hP.out w2 hk2.k
  replace hk2 := Box.mk hk2
  clear hA2 hb2 hk1 hP hB1 hbk
  go_wp2_with fail
  refine hG.mono ?_
  clear hG
  rintro e w3 ⟨rfl, hb3⟩
  have gk : Pk.Good (Pair2 (KeyO bk c.s c.h 0) (Pair2 (BlO bx [.string c.o, .string c.s, .int .i64 (c.h : Int)] 33) (Pair2 (DevO bd D) X))) := Pair2.good (KeyO.good _ _ _ _) (g2 bx)
  have gz : Pk.Good (Pair2 (BlO bx [.string c.o, .string c.s, .int .i64 (c.h : Int)] 33) X) := Pair2.good (BlO.good _ _ _) gX
  have hk3 := kept_cv (hk2.out.below gk hb3) ((cvRight cvFlip).trans cvFlip)
  have hG := hO.out _ w3 (Pair2.good (KeyO.good bk c.s c.h 0) gz) hk3
  clear hO hk2 hb3 hk3 cs0
  go_wp2_with fail
  refine hG.mono ?_
  clear hG
  rintro e w4 ⟨bc, rfl, hk4⟩
  have hk5 := kept_cv hk4.out ((cvLeft cvSwap).trans cvAssoc)
  have hG := hR.out _ bc w4 (Pair2.good (DevO.good _ _) (Pair2.good (KeyO.good bk c.s c.h 0) gz)) hk5
  clear hR hk4 hk5
  go_wp2_with fail
  refine hG.mono ?_
  clear hG
  rintro e w5 ⟨a, cc, rfl, hk6⟩
  obtain ⟨N, hN⟩ : ∃ x, ls.length = x := ⟨_, rfl⟩
  rw [hN] at hk6 ⊢
  have hk7 := kept_cv hk6.out ((cvRight (cvRight cvFlip)).trans ((cvRight cvFlip).trans cvFlip))
  have hG := kept_step hk7 ((kskip_does (w0 := w0) (bk := bk) (s := c.s) (h := c.h) (u := 0) ui).ret (Pair2.good (RowO.good (.slice a N cc) ls) (Pair2.good (CelO.good bd bc b h M) (Pair2.good (DevO.good bd D) gz))))
  clear hk6 hk7
  go_wp2_with fail
  refine hG.mono ?_
  clear hG
  rintro e w6 ⟨rfl, hk8⟩
  obtain ⟨FB, hB1, _⟩ := kept_look (kept_cv hk8.out ((cvRight (cvRight (cvRight cvFlip))).trans ((cvRight (cvRight cvFlip)).trans ((cvRight cvFlip).trans cvFlip))))
  have cs0 : w6.cell? ⟨bx, 0, none⟩ = some (.string c.o) := hB1.1.cell 0
  obtain ⟨FR, hR1, _, hRl⟩ := kept_look (kept_cv hk8.out cvFlip)
  have hk9 := Box.mk (opn_log (gz) hk8.out)
  have hap : ApartOf a w6.heap.size (.slice none 0 0) (.slice none 0 0) := fun q off ha => by
    subst ha
    have h1 := hR1.2.1 q rfl
    have := hRl q h1
    exact ⟨by omega, fun e => (by cases e), fun e => (by cases e)⟩
  have hb7 := bel_alloc w6 (.cells (lrC c.o bk bc (.slice none 0 0) (.slice none 0 0) (.slice none 0 0)).toArray 86)
  have hP7 : PA (w6.alloc (.cells (lrC c.o bk bc (.slice none 0 0) (.slice none 0 0) (.slice none 0 0)).toArray 86)) a N cc ls := by
    obtain ⟨a2, c2, hv2, hP⟩ := txr_pa (hR1.1.here hb7)
    cases hv2
    exact hP
  have hG := tplace_any (p := ⟨bd, w6.heap.size, bc, bk⟩) hE hk9.out (Pair2.good (RowO.good _ _) gz) ls a N cc hP7 hap (fun x hx => by have := hlim.out.1 x hx; omega) (by have := hlim.out.2.1; simp; omega)
  rw [List.nil_append] at hG
  simp only at hG
  clear hB1 hR1 hRl hP7 hb7 hap hk8
  go_wp2_with fail
  refine hG.mono ?_
  clear hG
  rintro e w8 ⟨rfl, hk10⟩
  obtain ⟨x, y, hk10⟩ := hk10.out
  have hkf := Box.mk (tlx_close (kept_cv hk10 (cvRight ((cvDropL gz).trans (cvDropL gX)))))
  clear hk10 hk9
  go_wp2_with fail
  go_returns
  exact ⟨_, _, _, rfl, hkf⟩
end
end Go.Proofs.YthpfpkikmaiddaaGreatDoor.Tg

namespace Go.Proofs.YthpfpkikmaiddaaGreatDoor.Tg
open Go Go.RowKit Go.Proofs.YthpfpkikmaiddaaGreatDoor.Pk Go.Proofs.YthpfpkikmaiddaaGreatDoor.Nt

section
variable {w0 w : World} {p : Pl} {b h : Nat} {c : Cfg} {D : Dev} {L : LogM} {vl vh vp : Value} {X : Pk.Obj}
def lfaV (l : List ByteArray) (s : ByteArray) : Value := match Lib.atoiAll s.data.toList with
  | .ok v => if txN v = s then leafV l v else .tuple #[.string ⟨#[]⟩, .int .i64 5]
  | _ => .tuple #[.string ⟨#[]⟩, .int .i64 5]
theorem leafV_shape (l : List ByteArray) (i : Int) : ∃ s n, leafV l i = .tuple #[.string s, .int .i64 n] := by
  unfold leafV
  split
  · exact ⟨_, _, rfl⟩
  · exact ⟨_, _, rfl⟩
set_option maxHeartbeats 1600000 in
set_option maxRecDepth 100000 in
theorem tleafAt_any (hE : Env w0) (hk : Kept w0 (Pair2 (TLo p b h c D L vl vh vp) X) w) (gX : Pk.Good X) (s : ByteArray) (hs : s.size ≤ 281474976710656) :
    Calls Tryz.prog 73 #[.pointer (some ⟨p.bl, 0, none⟩), .string s] w fun e w' => e = .returned (lfaV L.lv s) ∧ Box (Kept w0 (Pair2 (TLo p b h c D L vl vh vp) X) w') := by
  have hNL := hE.nlAt hk.k
  have hB := Box.mk (fun w1 (hb : Below w.heap.size w w1) => tl_here hk gX hb)
  unfold lfaV
  cases ha : Lib.atoiAll s.data.toList with
  | ok v =>
    obtain ⟨v0, v1⟩ := Lib.atoiAll_bounds ha
    have hC := Tryz.strconv_Atoi_ok s (by omega) v ha w
    have hI := Box.mk (fun w1 (hk1 : Kept w0 (Pair2 (TLo p b h c D L vl vh vp) X) w1) => itoa_any v w0.heap.size w1 (hE.nlAt hk1.k) v0 v1)
    have hLf := Box.mk (fun w1 (hk1 : Kept w0 (Pair2 (TLo p b h c D L vl vh vp) X) w1) => tleaf_log hk1 v)
    have hgX := Box.mk gX
    obtain ⟨x, hx⟩ : ∃ x, txN v = x := ⟨_, rfl⟩
    rw [hx] at hI
    simp only [hx]
    obtain ⟨bl, hbl⟩ : ∃ x, p.bl = x := ⟨_, rfl⟩
    rw [hbl] at hLf ⊢
    obtain ⟨ts, tn, hlv⟩ := leafV_shape L.lv v
    rw [hlv] at hLf ⊢
    clear hk ha hx hbl hlv v0 v1 hE gX hNL
    have hb0 := tl_eq x s
    by_cases he : x = s
    · rw [if_pos he]
      subst he
      go_enter Tryz.func73, Tryz.ntmps73
      go_wp2_with fail
      refine hC.mono ?_
      clear hC
      rintro e w1 ⟨rfl, hw⟩
      have hb : Below w.heap.size w w1 := by
        rcases hw with rfl | ⟨t, rfl⟩
        · exact Below.refl _ _
        · exact Lib.bytesWorld_below _ _ _
      have hk1 := Box.mk (hB.out w1 hb)
      have hG := hI.out w1 hk1.out
      clear hw hb hI hB
      go_wp2_with fail
      refine hG.mono ?_
      clear hG
      rintro e w2 ⟨rfl, hb2⟩
      have hk2 := Box.mk (tl_here hk1.out hgX.out hb2)
      have hG := hLf.out w2 hk2.out
      clear hb2 hk1 hLf
      go_wp2_with fail
      refine hG.mono ?_
      clear hG
      rintro e w3 ⟨rfl, rfl⟩
      go_wp2_with fail
      go_returns
      exact ⟨rfl, hk2⟩
    · rw [if_neg he]
      simp only [he, decide_false] at hb0
      go_enter Tryz.func73, Tryz.ntmps73
      go_wp2_with fail
      refine hC.mono ?_
      clear hC
      rintro e w1 ⟨rfl, hw⟩
      have hb : Below w.heap.size w w1 := by
        rcases hw with rfl | ⟨t, rfl⟩
        · exact Below.refl _ _
        · exact Lib.bytesWorld_below _ _ _
      have hk1 := Box.mk (hB.out w1 hb)
      have hG := hI.out w1 hk1.out
      clear hw hb hI hB hLf
      go_wp2_with fail
      refine hG.mono ?_
      clear hG
      rintro e w2 ⟨rfl, hb2⟩
      have hk2 := Box.mk (tl_here hk1.out hgX.out hb2)
      clear hb2 hk1
      go_wp2_with fail
      go_returns
      exact ⟨rfl, hk2⟩
  | range =>
    obtain ⟨te, pe, hv⟩ := hNL.r
    have hC := Tryz.strconv_Atoi_range s hs ha _ w hv (.inr ⟨te, pe, rfl⟩)
    obtain ⟨bl, hbl⟩ : ∃ x, p.bl = x := ⟨_, rfl⟩
    rw [hbl]
    clear ha hv hk hbl hNL hE
    go_enter Tryz.func73, Tryz.ntmps73
    go_wp2_with fail
    refine hC.mono ?_
    rintro e w1 ⟨N, rfl, _, _, hb⟩
    replace hb := Box.mk (hB.out w1 hb)
    clear hC
    go_wp2_with fail
    go_returns
    exact ⟨rfl, hb⟩
  | _ =>
    obtain ⟨te, pe, hv⟩ := hNL.s
    have hC := Tryz.strconv_Atoi_syntax s hs (fun v e => by rw [ha] at e; cases e) (by rw [ha]; intro e; cases e) _ w hv (.inr ⟨te, pe, rfl⟩)
    obtain ⟨bl, hbl⟩ : ∃ x, p.bl = x := ⟨_, rfl⟩
    rw [hbl]
    clear ha hv hk hbl hNL hE
    go_enter Tryz.func73, Tryz.ntmps73
    go_wp2_with fail
    refine hC.mono ?_
    rintro e w1 ⟨N, rfl, _, _, hb⟩
    replace hb := Box.mk (hB.out w1 hb)
    clear hC
    go_wp2_with fail
    go_returns
    exact ⟨rfl, hb⟩
def pCk0 : ByteArray := ⟨#[99, 104, 101, 99, 107, 112, 111, 105, 110, 116]⟩
def pLf0 : ByteArray := ⟨#[108, 101, 97, 102, 47]⟩
def cutT (s : ByteArray) : ByteArray := ⟨(Lib.trimPrefix s.data.toList pLf0.data.toList).toArray⟩
theorem cutT_size (s : ByteArray) : (cutT s).size ≤ s.size := by
  have := Lib.trimPrefix_le s.data.toList pLf0.data.toList
  show (Lib.trimPrefix s.data.toList pLf0.data.toList).toArray.size ≤ _
  rw [List.size_toArray]
  rw [Pk.data_len] at this
  exact this
theorem lfaV_shape (l : List ByteArray) (i : ByteArray) : ∃ s n, lfaV l i = .tuple #[.string s, .int .i64 n] := by
  unfold lfaV
  split
  · split
    · exact leafV_shape _ _
    · exact ⟨_, _, rfl⟩
  · exact ⟨_, _, rfl⟩
set_option maxHeartbeats 1600000 in
theorem tfile_leaf (hE : Env w0) (hk : Kept w0 (Pair2 (TLo p b h c D L vl vh vp) X) w) (gX : Pk.Good X) (s : ByteArray) (hs : s.size ≤ 281474976710656) (h1 : s ≠ pCk0) (h2 : Lib.hasPrefix s.data.toList pLf0.data.toList = true) :
    Calls Tryz.prog 32 #[.pointer (some ⟨p.bl, 0, none⟩), .string s] w fun e w' => e = .returned (lfaV L.lv (cutT s)) ∧ Box (Kept w0 (Pair2 (TLo p b h c D L vl vh vp) X) w') := by
  have hF := tleafAt_any hE hk gX (cutT s) (Nat.le_trans (cutT_size s) hs)
  have hC := Tryz.strings_CutPrefix s pLf0 w
  rw [h2] at hC
  have hb0 := tl_eq s pCk0
  simp only [h1, decide_false] at hb0
  rw [ByteArray.toList_eq pCk0] at hb0
  change (s.toList == [99, 104, 101, 99, 107, 112, 111, 105, 110, 116]) = false at hb0
  change Calls _ _ _ _ (fun e w' => e = .returned (.tuple #[.string (cutT s), .bool true]) ∧ w' = w) at hC
  obtain ⟨t, ht⟩ : ∃ x, cutT s = x := ⟨_, rfl⟩
  rw [ht] at hF hC ⊢
  obtain ⟨x, n, hv⟩ := lfaV_shape L.lv t
  obtain ⟨bl, hbl⟩ : ∃ x, p.bl = x := ⟨_, rfl⟩
  rw [hv, hbl] at hF
  rw [hv, hbl]
  unfold pLf0 at hC
  clear hk hv hbl ht h1 h2 hs
  go_enter Tryz.func32, Tryz.ntmps32
  go_wp2_with fail
  refine hC.mono ?_
  clear hC
  rintro e w1 ⟨rfl, rfl⟩
  go_wp2_with fail
  refine hF.mono ?_
  clear hF
  rintro e w1 ⟨rfl, hk1⟩
  go_wp2_with fail
  go_returns
  exact ⟨rfl, hk1⟩
end
end Go.Proofs.YthpfpkikmaiddaaGreatDoor.Tg
