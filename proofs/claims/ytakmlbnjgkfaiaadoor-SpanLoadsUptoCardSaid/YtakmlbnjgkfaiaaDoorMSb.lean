/- A span in memory; slices.Clone of texts; Size, Peaks, Root, Copy, Load, Prove. | Append of a span. | The document's span: powers, Load, Append, Root, Peaks. | The document's span: Root, Peaks. | A span of a list's leaves; the example of law 9 (grows). -/
import Derived.Lib.SliceRun
import Derived.Test.YtakmlbnjgkfaiaaDoorSpJ
import Derived.Test.YtakmlbnjgkfaiaaDoorMTe
import Derived.Test.YtakmlbnjgkfaiaaDoorQz
namespace Go.Proofs.YtakmlbnjgkfaiaaDoor
open Go Go.RowKit

theorem TxR.lt {B : Nat} {w : World} {v : Value} {ids : List ByteArray} (h : TxR B w v ids) (k : Nat) (hk : v.ownBlock = some k) : k < w.heap.size := (World.ownsRow.lt h k hk).2
theorem TxR.top {B : Nat} {w : World} {a : Option Addr} {n c : Nat} {ids : List ByteArray} (h : TxR B w (.slice a n c) ids) : n ≤ c ∧ c ≤ 9223372036854775807 := by
  obtain ⟨hx, ⟨h1, h0⟩ | ⟨g, cap, cur, h1, b1, hg, b2, b3, b4⟩⟩ := h
  · cases h1; omega
  · cases h1; unfold maxLen at b3; exact ⟨b2, by omega⟩
/-- The beginning of a row that is owned. -/
theorem TxR.take {B : Nat} {w : World} {a : Option Addr} {n c : Nat} {ids : List ByteArray} (h : TxR B w (.slice a n c) ids) (hn : ids.length = n) (k : Nat) (hk : k ≤ n) : TxR B w (.slice a k c) (ids.take k) := by
  obtain ⟨hx, ⟨h1, h0⟩ | ⟨g, cap, cur, h1, b1, hg, b2, b3, b4, b5⟩⟩ := h
  · obtain rfl : ids = [] := List.length_eq_zero_iff.1 h0
    cases h1
    have : k = 0 := by omega
    subst this
    rw [List.take_zero]; exact World.ownsRow_nil _ _ _ _
  · subst hn
    injection h1 with e1 e2 e3
    subst e1 e3
    refine ⟨by simp, .inr ⟨g, c, cur, by rw [List.length_take, Nat.min_eq_left hk], b1, hg, by simp; omega, b3, b4, ?_⟩⟩
    have h4 := congrArg (List.take (k * 1)) b5
    rw [List.take_take, Nat.min_eq_left (by omega)] at h4
    rw [List.length_take, Nat.min_eq_left hk, h4, Nat.mul_one, List.map_take]
/-- A span in block g: how many leaves, its peaks in the row v. -/
structure SAt (w : World) (t : TypeId) (g n : Nat) (v : Value) (P : List ByteArray) : Prop where
  blk : Pk.Blk w g [.int .i64 (n : Int), v] t
  row : TxR 0 w v P
  len : P.length = pcN n
theorem SAt.chg {S : Nat → Prop} {w w' : World} {t : TypeId} {g n : Nat} {v : Value} {P : List ByteArray} (h : SAt w t g n v P) (hc : Pk.Chg S w w') (h1 : ¬ S g) (h2 : ∀ k, v.ownBlock = some k → ¬ S k) : SAt w' t g n v P :=
  ⟨hc.blk h.blk h1, h.row.chg hc h2, h.len⟩
theorem SAt.lt {w : World} {t : TypeId} {g n : Nat} {v : Value} {P : List ByteArray} (h : SAt w t g n v P) : g < w.heap.size := Pk.Blk.lt h.blk
theorem SAt.here {w w' : World} {t : TypeId} {g n : Nat} {v : Value} {P : List ByteArray} (h : SAt w t g n v P) (hb : Below w.heap.size w w') : SAt w' t g n v P :=
  h.chg (Pk.Chg.of_below hb) (by have := h.lt; omega) fun k hk => by have := h.row.lt k hk; omega
theorem SAt.apart {w : World} {t : TypeId} {g n : Nat} {v : Value} {P : List ByteArray} (h : SAt w t g n v P) (ht : t ≠ 9) : v.ownBlock ≠ some g := Pk.Row.apart h.row h.blk ht
/-- What a call of a span leaves. -/
structure SNext (w : World) (t : TypeId) (g : Nat) (v : Value) (n : Nat) (P : List ByteArray) (w' : World) : Prop where
  out : ∃ v', SAt w' t g n v' P ∧ Pk.Chg (fun k => k = g ∨ v.ownBlock = some k) w w' ∧ ∀ k, v'.ownBlock = some k → v.ownBlock = some k ∨ w.heap.size ≤ k
/-- A span that is made: all of it new. -/
structure SNew (w : World) (t : TypeId) (g n : Nat) (P : List ByteArray) (w' : World) : Prop where
  out : ∃ v, SAt w' t g n v P ∧ w.heap.size ≤ g ∧ (∀ k, v.ownBlock = some k → w.heap.size ≤ k) ∧ Below w.heap.size w w'
def PtrS (g : Nat) : Value := .pointer (some ⟨g, 0, none⟩)

/-- What a copy of texts is: a row of its own. -/
def RowIs (w : World) (P : List ByteArray) (e : Ending) (w' : World) : Prop := ∃ v, e = .returned v ∧ TxR w.heap.size w' v P ∧ Below w.heap.size w w'
set_option maxHeartbeats 800000 in
set_option maxRecDepth 100000 in
theorem clone_any (a : Option Addr) (n c : Nat) (P : List ByteArray) (w : World) (hP : PA w a n c P) (hn : n ≤ 4611686018427) :
    Calls Tryd.prog 28 #[.slice a n c] w (RowIs w P) := by
  have hlen := hP.len
  have q22 : ∀ (w : World) (a : Option Addr) (n c n' c' : Nat), (binOp .eql 22 (.slice a n c) (.slice none n' c')).run Tryd.prog w = .ok (.bool a.isNone) w := fun w a n c n' c' => Lib.run_eql_slice_nil w _ _ a n c n' c' Tryd.underlying22
  cases a with
  | none =>
    have h0 : n = 0 := by
      rcases Nat.eq_zero_or_pos n with h | h
      · exact h
      · obtain ⟨_, _, e, _⟩ := hP.at_ h; cases e
    subst h0
    obtain rfl : P = [] := List.length_eq_zero_iff.1 hlen
    go_enter Tryd.func28, Tryd.ntmps28
    go_wp2_with fail
    go_ret
    exact ⟨_, rfl, TxR.nil _ _, Below.refl _ _⟩
  | some ad =>
    have hT0 : Box (TxR w.heap.size (w.alloc (.cells #[] 9)) (.slice (some ⟨w.heap.size, 0, none⟩) 0 0) []) := ⟨⟨rfl, .inr ⟨w.heap.size, 0, #[], rfl, Nat.le_refl _, heap_alloc_new w _, Nat.le_refl _, by unfold maxLen; omega, rfl, rfl⟩⟩⟩
    have hPa : Box (PartsAt (w.alloc (.cells #[] 9)) (.slice (some ad) n c) P) := ⟨(hP.here (bel_alloc w _)).parts⟩
    have hlB := Box.mk hlen
    have hnB := Box.mk hn
    have qs : (some ad : Option Addr).isNone = false := rfl
    clear hP hlen hn
    go_enter Tryd.func28, Tryd.ntmps28
    go_wp2_with (at_builtin; refine wpList_pushT rfl (.tmp 5) (.tmp 6) rfl w.heap.size _ [] P rfl hT0.out (by simp) (some ad) n c rfl hlB.out hPa.out (by have := hnB.out; simp; omega) ?_)
    rintro v2 w2 hp
    have hb2 := hp.bel (bel_alloc w _) hT0.out
    have hr := hp.row
    replace hr := Box.mk hr
    replace hb2 := Box.mk hb2
    clear hp hT0 hPa
    go_wp2_with fail
    go_ret
    exact ⟨_, rfl, hr.out, hb2.out⟩
theorem size_any (g n : Nat) (v : Value) (P : List ByteArray) (w : World) (h : SAt w 25 g n v P) :
    Calls Tryd.prog 12 #[PtrS g] w fun e w' => e = .returned (.int .i64 (n : Int)) ∧ w = w' := by
  have k0 : w.cell? ⟨g, 0, none⟩ = some (.int .i64 (n : Int)) := h.blk.cell 0
  clear h
  unfold PtrS
  go_enter Tryd.func12, Tryd.ntmps12
  go_wp2_with fail
  go_returns
  exact ⟨rfl, rfl⟩
theorem peaks_any (g n : Nat) (v : Value) (P : List ByteArray) (w : World) (h : SAt w 25 g n v P) (hl : P.length ≤ 64) :
    Calls Tryd.prog 16 #[PtrS g] w (RowIs w P) := by
  obtain ⟨a, c, rfl⟩ := h.row.shape
  have k1 : w.cell? ⟨g, 1, none⟩ = some (.slice a P.length c) := h.blk.cell 1
  have hC := clone_any a P.length c P w (h.row.pa rfl) (by omega)
  obtain ⟨m, hm⟩ : ∃ m, P.length = m := ⟨_, rfl⟩
  rw [hm] at k1 hC
  clear h hl hm
  unfold PtrS RowIs at *
  go_enter Tryd.func16, Tryd.ntmps16
  go_wp2_with fail
  refine hC.mono ?_
  rintro e w1 ⟨v1, rfl, h1, h2⟩
  clear hC
  replace h1 := Box.mk h1
  replace h2 := Box.mk h2
  go_wp2_with fail
  go_ret
  exact ⟨_, rfl, h1.out, h2.out⟩
set_option maxHeartbeats 800000 in
set_option maxRecDepth 100000 in
theorem sroot_any (g n : Nat) (v : Value) (P : List ByteArray) (w : World) (h : SAt w 25 g n v P) (hK : KIs w) (hF : Fit P) (hn : n < 9223372036854775808) :
    Calls Tryd.prog 13 #[PtrS g] w fun e w' => e = .returned (.string (foldP P)) ∧ Below w.heap.size w w' := by
  have hS := size_any g n v P w h
  unfold PtrS at *
  rcases Nat.eq_zero_or_pos n with h0 | h0
  · subst h0
    have hP0 : P = [] := List.length_eq_zero_iff.1 (by rw [h.len, pcN_zero])
    subst hP0
    have hR := root_any 0 [] none 0 w (pa_none _ _) hK (fun x hx => by cases hx)
    rw [rootL_nil] at hR
    rw [show foldP [] = noneH from rfl]
    clear h hK hF
    go_enter Tryd.func13, Tryd.ntmps13
    go_wp2_with fail
    refine hS.mono ?_
    rintro e w1 ⟨rfl, rfl⟩
    clear hS
    go_wp2_with fail
    refine hR.mono ?_
    rintro e w1 ⟨rfl, hb⟩
    clear hR
    replace hb := Box.mk hb
    go_wp2_with fail
    go_ret
    exact ⟨rfl, hb.out⟩
  · have hl := h.len
    have hpos := pcN_pos n h0
    obtain ⟨m, hm⟩ : ∃ m, P.length = m + 1 := ⟨P.length - 1, by omega⟩
    rw [foldP_last P m hm]
    obtain ⟨a, c, rfl⟩ := h.row.shape
    have hPA := h.row.pa rfl
    obtain ⟨blk, off, rfl, hlt, hcell⟩ := hPA.at_ (by omega)
    rw [hm] at hPA
    have hcm := hcell m (by omega)
    have k1 : w.cell? ⟨g, 1, none⟩ = some (.slice (some ⟨blk, off, none⟩) P.length c) := h.blk.cell 1
    rw [hm] at k1
    have hg := h.lt
    have hlm : m < P.length := by omega
    have hxs : (P.getD m ByteArray.empty).size ≤ 70000000000000 := fit_getD hF m
    have hcap := hPA.cap
    have htop := hPA.top
    obtain ⟨x, hx⟩ : ∃ x, P.getD m ByteArray.empty = x := ⟨_, rfl⟩
    rw [hx] at hcm hxs ⊢
    have hJ := fun w' (hb : Below w.heap.size w w') => join_any (some ⟨blk, off, none⟩) m c (P.take m) x w' ((hPA.here hb).take (by omega)) (hF.take m) (hK.below hb hK.lt) hxs
    have k1' : ∀ w', Below w.heap.size w w' → w'.cell? ⟨g, 1, none⟩ = some (.slice (some ⟨blk, off, none⟩) (m + 1) c) := fun w' hb => (hb.cell (p := ⟨g, 1, none⟩) hg).trans k1
    have hcm' : ∀ w', Below w.heap.size w w' → w'.cell? ⟨blk, off + m, none⟩ = some (.string x) := fun w' hb => (hb.cell (p := ⟨blk, off + m, none⟩) hlt).trans hcm
    replace k1' := Box.mk k1'
    replace hcm' := Box.mk hcm'
    have hne : ((n : Int) == 0) = false := by simp; omega
    obtain ⟨y, hy⟩ : ∃ y, jn (P.take m) x = y := ⟨_, rfl⟩
    rw [hy] at hJ ⊢
    replace hJ := Box.mk hJ
    clear h hK hF hPA hcell hcm hx hy hl hpos hxs hlm hm
    go_enter Tryd.func13, Tryd.ntmps13
    go_wp2_with fail
    refine hS.mono ?_
    rintro e w1 ⟨rfl, rfl⟩
    clear hS
    go_wp2_with fail
    refine region_quiet (fun w' => Below w.heap.size w w') (by kernel_rfl) (by kernel_rfl) (dB _) ?_
    repeat (go_big_quiet_step (first | exact fun _ => rfl | rfl))
    refine quiet_val rfl (.slice (some ⟨blk, off, none⟩) (m + 1) c) (fun w' hw' => by have h3 := k1'.out w' hw'; go_simp) ?_
    simp only [Act.put, List.setIfInBounds_toArray, List.set_cons_succ, List.set_cons_zero]
    repeat (go_big_quiet_step (first | exact fun _ => rfl | rfl))
    refine quiet_val rfl (.slice (some ⟨blk, off, none⟩) (m + 1) c) (fun w' hw' => by have h3 := k1'.out w' hw'; go_simp) ?_
    simp only [Act.put, List.setIfInBounds_toArray, List.set_cons_succ, List.set_cons_zero]
    repeat (go_big_quiet_step (first | exact fun _ => rfl | rfl))
    refine quiet_val rfl (.string x) (fun w' hw' => by have h3 := hcm'.out w' hw'; go_simp) ?_
    simp only [Act.put, List.setIfInBounds_toArray, List.set_cons_succ, List.set_cons_zero]
    repeat (go_big_quiet_step (first | exact fun _ => rfl | rfl))
    refine quiet_call rfl (.string y) (fun w' hw' => bel_call (hJ.out w' hw') hw') (fun w' _ => by go_simp) ?_
    simp only [Act.put, List.setIfInBounds_toArray, List.set_cons_succ, List.set_cons_zero]
    repeat (go_big_quiet_step (first | exact fun _ => rfl | rfl))
    refine wpQuiet_nil ?_
    clear hJ k1' hcm'
    intro w7 hw7
    replace hw7 := Box.mk hw7
    go_wp2_with fail
    go_ret
    exact ⟨rfl, hw7.out⟩
/-- A span that is handed back, all of it new. -/
def NewIs (w : World) (t : TypeId) (n : Nat) (P : List ByteArray) (e : Ending) (w' : World) : Prop := ∃ g, e = .returned (PtrS g) ∧ SNew w t g n P w'
def NewE (w : World) (t : TypeId) (n : Nat) (P : List ByteArray) (e : Ending) (w' : World) : Prop := ∃ g, e = .returned (.tuple #[PtrS g, .int .i64 0]) ∧ SNew w t g n P w'
theorem SNew.box {w w1 : World} {t : TypeId} {n : Nat} {v : Value} {P : List ByteArray} (h : TxR w.heap.size w1 v P) (hb : Below w.heap.size w w1) (hl : P.length = pcN n) : SNew w t w1.heap.size n P (w1.alloc (.cells #[.int .i64 (n : Int), v] t)) :=
  ⟨v, ⟨Pk.Blk.new w1 [.int .i64 (n : Int), v] t, (h.base (Nat.zero_le _)).here (bel_alloc _ _), hl⟩, hb.size, fun k hk => (h.own k hk).1, mono_bel hb (bel_alloc _ _) (Nat.le_refl _)⟩
set_option maxHeartbeats 800000 in
set_option maxRecDepth 100000 in
theorem copy_any (g n : Nat) (v : Value) (P : List ByteArray) (w : World) (h : SAt w 25 g n v P) (hl : P.length ≤ 64) :
    Calls Tryd.prog 9 #[PtrS g] w (NewIs w 25 n P) := by
  obtain ⟨a, c, rfl⟩ := h.row.shape
  have hg := h.lt
  have k0 : w.cell? ⟨g, 0, none⟩ = some (.int .i64 (n : Int)) := h.blk.cell 0
  have k1 : w.cell? ⟨g, 1, none⟩ = some (.slice a P.length c) := h.blk.cell 1
  have hlen := Box.mk h.len
  have hC := fun w' (hb : Below w.heap.size w w') => clone_any a P.length c P w' ((h.row.pa rfl).here hb) (by omega)
  obtain ⟨m, hm⟩ : ∃ m, P.length = m := ⟨_, rfl⟩
  rw [hm] at k1 hC
  clear h hl hm
  unfold PtrS
  go_enter Tryd.func9, Tryd.ntmps9
  go_wp2_with fail
  have k0' : Box (∀ w', Below w.heap.size w w' → w'.cell? ⟨g, 0, none⟩ = some (.int .i64 (n : Int))) := ⟨fun w' hb => (hb.cell (p := ⟨g, 0, none⟩) hg).trans k0⟩
  have k1' : Box (∀ w', Below w.heap.size w w' → w'.cell? ⟨g, 1, none⟩ = some (.slice a m c)) := ⟨fun w' hb => (hb.cell (p := ⟨g, 1, none⟩) hg).trans k1⟩
  replace hC := Box.mk hC
  clear k0 k1
  refine region_go (C := fun w' => Below w.heap.size w w') rfl ?_
  refine go_calms [0, 1, 2, 3, 4, 5, 6, 7] 4 rfl (by kernel_rfl) (by kernel_rfl) (by kernel_rfl) (dB w) ?_
  simp [nth]
  repeat (go_big_quiet_step (first | exact fun _ => rfl | rfl))
  refine quiet_val rfl (.int .i64 (n : Int)) (fun w' hw' => by have h3 := k0'.out w' hw'; go_simp) ?_
  simp only [Act.put, List.setIfInBounds_toArray, List.set_cons_succ, List.set_cons_zero]
  repeat (go_big_quiet_step (first | exact fun _ => rfl | rfl))
  refine quiet_val rfl (.slice a m c) (fun w' hw' => by have h3 := k1'.out w' hw'; go_simp) ?_
  simp only [Act.put, List.setIfInBounds_toArray, List.set_cons_succ, List.set_cons_zero]
  refine wpQuiet_nil ?_
  refine go_forced 8 (by kernel_rfl) (goOp_wp 8 rfl rfl (fun K hK => ?_))
  have hC1 := hC.out w.drew (dB w)
  unfold RowIs at hC1
  go_simp
  refine hC1.mono ?_
  rintro e w1 ⟨v1, rfl, h1, h2⟩
  obtain ⟨a1, c1, rfl⟩ := h1.shape
  have hb1 : Below w.heap.size w w1 := mono_bel (dB w) h2 (Nat.le_refl _)
  have hN := Box.mk (SNew.box (w := w) (t := 25) (n := n) h1 hb1 hlen.out)
  refine hK _ _ hb1 ?_
  clear hK K hC hC1 k0' k1' h1 h2
  refine go_forced 9 (by kernel_rfl) (goOp_wp 9 rfl rfl (fun K hK => ?_))
  go_simp
  refine hK _ _ hb1 ?_
  clear hK K
  refine go_forced 10 (by kernel_rfl) (goOp_wp 10 rfl rfl (fun K hK => ?_))
  go_simp
  refine hK _ _ (mono_bel hb1 (bel_alloc _ _) (Nat.le_refl _)) ?_
  clear hK K
  refine go_forced 11 (by kernel_rfl) (goOp_wp 11 rfl rfl (fun K hK => ?_))
  go_simp
  refine hK _ _ (mono_bel hb1 (bel_alloc _ _) (Nat.le_refl _)) ?_
  clear hK K hb1
  refine go_done (by kernel_rfl) ?_
  go_wp2_with fail
  go_ret
  exact ⟨_, rfl, hN.out⟩
set_option maxHeartbeats 800000 in
set_option maxRecDepth 100000 in
theorem load_ok (n : Nat) (a : Option Addr) (m c : Nat) (P : List ByteArray) (w : World) (hP : PA w a m c P) (hn : n < 9223372036854775808) (hl : P.length = pcN n) (hm : m ≤ 64) :
    Calls Tryd.prog 18 #[.int .i64 (n : Int), .slice a m c] w (NewE w 25 n P) := by
  have hC := clone_any a m c P w hP (by omega)
  have hW := powers_any n hn w
  have hmp : m = pcN n := by rw [← hl, hP.len]
  rw [← hmp] at hW
  have hneq : ((m : Int) != (m : Int)) = false := by simp
  have hnn : ¬ ((n : Int) < 0) := by omega
  have hlB := Box.mk hl
  clear hP hl hmp
  unfold RowIs at hC
  go_enter Tryd.func18, Tryd.ntmps18
  go_wp2_with fail
  refine hW.mono ?_
  rintro e w1 ⟨rfl, rfl⟩
  clear hW
  go_wp2_with fail
  refine hC.mono ?_
  rintro e w2 ⟨v, rfl, h1, h2⟩
  clear hC
  obtain ⟨a1, c1, rfl⟩ := h1.shape
  have hN := Box.mk (SNew.box (t := 25) (n := n) h1 h2 hlB.out)
  clear h1 h2
  go_wp2_with fail
  go_returns
  exact ⟨_, rfl, hN.out⟩
set_option maxHeartbeats 800000 in
set_option maxRecDepth 100000 in
theorem load_bad (n : Int) (a : Option Addr) (m c : Nat) (w : World) (hn : -9223372036854775808 ≤ n ∧ n < 9223372036854775808) (hb : n < 0 ∨ m ≠ pcN n.toNat) :
    Calls Tryd.prog 18 #[.int .i64 n, .slice a m c] w fun e w' => e = .returned (.tuple #[.pointer none, .int .i64 1]) ∧ w = w' := by
  by_cases h0 : n < 0
  · clear hb
    go_enter Tryd.func18, Tryd.ntmps18
    go_wp2_with fail
    go_returns
    exact ⟨rfl, rfl⟩
  · obtain ⟨k, rfl⟩ : ∃ k : Nat, n = k := ⟨n.toNat, by omega⟩
    have hW := powers_any k (by omega) w
    have hne : m ≠ pcN k := by
      rcases hb with h | h
      · omega
      · simpa using h
    obtain ⟨q, hq⟩ : ∃ q, pcN k = q := ⟨_, rfl⟩
    rw [hq] at hW hne
    have hneq : ((m : Int) != (q : Int)) = true := by simp; omega
    clear hb hq hne
    go_enter Tryd.func18, Tryd.ntmps18
    go_wp2_with fail
    refine hW.mono ?_
    rintro e w1 ⟨rfl, rfl⟩
    clear hW
    go_wp2_with fail
    go_returns
    exact ⟨rfl, rfl⟩
set_option maxHeartbeats 800000 in
set_option maxRecDepth 100000 in
theorem prove_any (g k : Nat) (v : Value) (Q : List ByteArray) (n : Nat) (l : List ByteArray) (a : Option Addr) (c : Nat) (w : World) (h : SAt w 25 g k v Q) (hP : PA w a n c l) (hK : KIs w) (hF : Fit l) :
    Calls Tryd.prog 25 #[PtrS g, .slice a n c] w (RowsE w (conL l k) (conE l k)) := by
  have k0 : w.cell? ⟨g, 0, none⟩ = some (.int .i64 (k : Int)) := h.blk.cell 0
  have hC := consistency_any n l k a c w hP hK hF
  obtain ⟨I, hI⟩ : ∃ I, conL l k = I := ⟨_, rfl⟩
  obtain ⟨J, hJ⟩ : ∃ J, conE l k = J := ⟨_, rfl⟩
  rw [hI, hJ] at hC
  rw [hI, hJ]
  clear h hP hK hF hI hJ
  unfold PtrS RowsE at *
  go_enter Tryd.func25, Tryd.ntmps25
  go_wp2_with fail
  refine hC.mono ?_
  rintro e w3 ⟨v3, rfl, hT3, hb3⟩
  clear hC
  replace hT3 := Box.mk hT3
  replace hb3 := Box.mk hb3
  go_wp2_with fail
  go_returns
  exact ⟨_, rfl, hT3.out, hb3.out⟩
end Go.Proofs.YtakmlbnjgkfaiaaDoor

namespace Go.Proofs.YtakmlbnjgkfaiaaDoor
open Go Go.RowKit

theorem region_steadyC {P : Program} (B C : World → Prop) (R : World → World → Prop) {id : Nat} {Q : Exit → Act → World → Prop} {a : Act} {w : World} {l : List Oper} (hm : P.follows .mixedOrders = true) (hC : C w.drew)
    (h : anyS P .any l.toArray B R (Q .normal) l.length (Array.replicate l.length false) a C) : (Code.region id l.toArray true).wp P Q a w := by
  refine wp_region_any hm ?_
  have h2 := any_of_S (fun _ _ h => h) _ _ _ _ _ hC h
  simpa using h2
theorem st_eq {B C : World → Prop} (h : ∀ w, C w → B w) : St B (fun w w' => w = w') C := ⟨h, fun _ _ hC e => e ▸ hC⟩
/-- An append onto the beginning of a span's peaks, stored back. -/
theorem SNext.store {w0 w w1 : World} {t : TypeId} {g n : Nat} {a : Option Addr} {L c k : Nat} {P : List ByteArray} {v' : Value} {h : ByteArray} (ht : t ≠ 9) (hA : SAt w0 t g n (.slice a L c) P) (hb : Below w0.heap.size w0 w) (hp : PushedT 0 w (.slice a k c) (P.take k ++ [h]) v' w1)
    (hlen : (P.take k ++ [h]).length = pcN (n + 1)) : SNext w0 t g (.slice a L c) (n + 1) (P.take k ++ [h]) ((w1.setCell ⟨g, 1, none⟩ v').setCell ⟨g, 0, none⟩ (.int .i64 ((n + 1 : Nat) : Int))) := by
  have hA1 := hA.here hb
  have hown : ∀ j, (Value.slice a k c).ownBlock = some j → (Value.slice a L c).ownBlock = some j := fun j hj => by
    cases a with
    | none => cases hj
    | some ad => exact hj
  have hg1 : Pk.Blk w1 g [.int .i64 (n : Int), .slice a L c] t := hp.chg.blk hA1.blk fun e => hA1.apart ht (hown _ e)
  have hg2 := (hg1.setCell 1 v').setCell 0 (.int .i64 ((n + 1 : Nat) : Int))
  have hne : ∀ j, v'.ownBlock = some j → j ≠ g := fun j hj e => by
    subst e
    exact Pk.Row.apart hp.row hg1 ht hj
  have hrow : TxR 0 ((w1.setCell ⟨g, 1, none⟩ v').setCell ⟨g, 0, none⟩ (.int .i64 ((n + 1 : Nat) : Int))) v' (P.take k ++ [h]) :=
    hp.row.chg (S := fun i => i = g) (((Pk.Chg.refl (fun i => i = g) w1).setCell (p := ⟨g, 1, none⟩) rfl v').setCell (p := ⟨g, 0, none⟩) rfl _) fun j hj e => hne j hj e
  refine ⟨v', ⟨hg2, hrow, hlen⟩, ?_, fun j hj => ?_⟩
  · have c0 : Pk.Chg (fun i => i = g ∨ (Value.slice a L c).ownBlock = some i) w0 w := (Pk.Chg.of_below hb).mono fun i hi e => absurd e (by omega)
    have c1 : Pk.Chg (fun i => i = g ∨ (Value.slice a L c).ownBlock = some i) w w1 := hp.chg.mono fun i _ e => .inr (hown i e)
    exact ((c0.trans c1 fun _ _ h => h).setCell (p := ⟨g, 1, none⟩) (.inl rfl) v').setCell (p := ⟨g, 0, none⟩) (.inl rfl) _
  · rcases hp.place j hj with e | e
    · exact .inl (hown _ e)
    · exact .inr (Nat.le_trans hb.size e)
set_option maxHeartbeats 3200000 in
set_option maxRecDepth 100000 in
theorem append_some (g n gb c : Nat) (P : List ByteArray) (h : ByteArray) (w : World) (hA : SAt w 25 g n (.slice (some ⟨gb, 0, none⟩) P.length c) P) (hK : KIs w) (hT : TIs w) (hF : Fit P) (hh : h.size ≤ 70000000000000) (hn : n < 9223372036854775807) (hl : P.length ≤ 64) :
    Calls Tryd.prog 11 #[PtrS g, .string h] w fun e w' => e = .returned (.tuple #[]) ∧ SNext w 25 g (.slice (some ⟨gb, 0, none⟩) P.length c) (n + 1) (pushH n P h) w' := by
  have hg := hA.lt
  have hlen := hA.len
  have ht1 := t1_le n
  have hpl := pushH_length n P h hA.len
  unfold pushH at hpl ⊢
  have k0 : w.cell? ⟨g, 0, none⟩ = some (.int .i64 (n : Int)) := hA.blk.cell 0
  have k1 : w.cell? ⟨g, 1, none⟩ = some (.slice (some ⟨gb, 0, none⟩) P.length c) := hA.blk.cell 1
  have hPA := hA.row.pa rfl
  have hcap := hPA.cap
  have htop := hPA.top
  have hBlk := hA.blk
  obtain ⟨L, hL⟩ : ∃ L, P.length = L := ⟨_, rfl⟩
  rw [hL] at hA hlen hpl k1 hPA hcap hl hBlk ⊢
  obtain ⟨r, hr⟩ : ∃ r, L - t1 n = r := ⟨_, rfl⟩
  rw [hr] at hpl ⊢
  have hrL : r ≤ L := by omega
  have hri : (L : Int) - (t1 n : Int) = (r : Int) := by omega
  have hqr : L - r = t1 n := by omega
  have hCl := fun w' (hb : Below w.heap.size w w') => (closed_any n (by omega) w' (hT.below hb hT.lt))
  obtain ⟨q, hq⟩ : ∃ q, t1 n = q := ⟨_, rfl⟩
  rw [hq] at hCl hri hqr
  have hJ := fun w' (hb : Below w.heap.size w w') => join_any (if c = r then some ⟨gb, 0, none⟩ else some ⟨gb, r, none⟩) (L - r) (c - r) (P.drop r) h w' (by
    by_cases hcr : c = r
    · have h1 := hPA.len
      rw [if_pos hcr]
      exact ⟨by rw [List.length_drop, h1], by omega, by omega, fun h0 => by omega⟩
    · have h1 := (hPA.here hb).drop hrL
      rw [Nat.zero_add] at h1
      rw [if_neg hcr]
      exact h1) (hF.drop r) (hK.below hb hK.lt) hh
  obtain ⟨ad, had⟩ : ∃ ad : Option Addr, (if c = r then some ⟨gb, 0, none⟩ else some ⟨gb, r, none⟩) = ad := ⟨_, rfl⟩
  rw [had] at hJ
  replace had := Box.mk had
  obtain ⟨y, hy⟩ : ∃ y, jn (P.drop r) h = y := ⟨_, rfl⟩
  rw [hy] at hJ hpl ⊢
  have k0' : Box (∀ w', Below w.heap.size w w' → w'.cell? ⟨g, 0, none⟩ = some (.int .i64 (n : Int))) := ⟨fun w' hb => (hb.cell (p := ⟨g, 0, none⟩) hg).trans k0⟩
  have k1' : Box (∀ w', Pk.Blk w' g [.int .i64 (n : Int), .slice (some ⟨gb, 0, none⟩) L c] 25 → w'.cell? ⟨g, 1, none⟩ = some (.slice (some ⟨gb, 0, none⟩) L c)) := ⟨fun w' hb => hb.cell 1⟩
  have kB : Box (∀ w', Below w.heap.size w w' → Pk.Blk w' g [.int .i64 (n : Int), .slice (some ⟨gb, 0, none⟩) L c] 25) := ⟨fun w' hb => (hb.block g hg).trans hBlk⟩
  have hne : ((n : Int) == 9223372036854775807) = false := by simp; omega
  obtain ⟨N, hN⟩ : ∃ N, n + 1 = N := ⟨_, rfl⟩
  have hNi : Box ((n : Int) + 1 = (N : Int)) := ⟨by omega⟩
  rw [hN] at ⊢
  replace hA := Box.mk hA
  replace hCl := Box.mk hCl
  replace hJ := Box.mk hJ
  replace hpl := Box.mk hpl
  replace hl := Box.mk hl
  have hgB := Box.mk hg
  have hnB := Box.mk hn
  have hLB := Box.mk hL
  clear hK hT hF hh hlen ht1 hPA hL hr hq hy hBlk hqr hn
  unfold PtrS
  go_enter Tryd.func11, Tryd.ntmps11
  go_wp2_with fail
  clear k0 k1 hne
  refine region_quiet (fun w' => Below w.heap.size w w') (by kernel_rfl) (by kernel_rfl) (dB _) ?_
  repeat (go_big_quiet_step (first | exact fun _ => rfl | rfl))
  refine quiet_val rfl (.slice (some ⟨gb, 0, none⟩) L c) (fun w' hw' => by have h3 := k1'.out w' (kB.out w' hw'); go_simp) ?_
  simp only [Act.put, List.setIfInBounds_toArray, List.set_cons_succ, List.set_cons_zero]
  repeat (go_big_quiet_step (first | exact fun _ => rfl | rfl))
  refine quiet_val rfl (.int .i64 (n : Int)) (fun w' hw' => by have h3 := k0'.out w' hw'; go_simp) ?_
  simp only [Act.put, List.setIfInBounds_toArray, List.set_cons_succ, List.set_cons_zero]
  repeat (go_big_quiet_step (first | exact fun _ => rfl | rfl))
  refine quiet_call rfl (.int .i64 (q : Int)) (fun w' hw' => (hCl.out w' hw').mono fun e w2 ⟨he, hw2⟩ => ⟨he, hw2 ▸ hw'⟩) (fun w' _ => by go_simp) ?_
  simp only [Act.put, List.setIfInBounds_toArray, List.set_cons_succ, List.set_cons_zero]
  repeat (go_big_quiet_step (first | exact fun _ => rfl | rfl))
  refine wpQuiet_nil ?_
  clear hCl
  intro w1 hw1
  replace hw1 := Box.mk hw1
  go_wp2_with fail
  refine region_steadyC (fun w' => Pk.Blk w' g [.int .i64 (n : Int), .slice (some ⟨gb, 0, none⟩) L c] 25) (fun w' => Below w.heap.size w w') (fun w w' => w = w') rfl (mono_bel hw1.out (dB w1) (Nat.le_refl _)) ?_
  refine anyS_calms [0, 1, 2, 3, 4, 5, 6, 7, 8, 9, 10, 11, 12, 13] 6 rfl (fun _ => rfl) (st_eq kB.out) (by kernel_rfl) (by kernel_rfl) (by kernel_rfl) ?_
  simp [nth]
  try simp only [Act.put, List.setIfInBounds_toArray, List.set_cons_succ, List.set_cons_zero]
  repeat (go_big_quiet_step (first | exact fun _ => rfl | rfl))
  refine quiet_val rfl (.slice (some ⟨gb, 0, none⟩) L c) (fun w' hw' => by have h3 := k1'.out w' hw'; go_simp) ?_
  simp only [Act.put, List.setIfInBounds_toArray, List.set_cons_succ, List.set_cons_zero]
  repeat (go_big_quiet_step (first | exact fun _ => rfl | rfl))
  refine quiet_val rfl (.slice (some ⟨gb, 0, none⟩) L c) (fun w' hw' => by have h3 := k1'.out w' hw'; go_simp) ?_
  simp only [Act.put, List.setIfInBounds_toArray, List.set_cons_succ, List.set_cons_zero]
  repeat (go_big_quiet_step (first | exact fun _ => rfl | rfl))
  refine wpQuiet_nil ?_
  rw [had.out]
  refine anyS_forced 14 (by kernel_rfl) rfl rfl (fun wa hWa K hK => ?_)
  have hF := hJ.out wa hWa
  go_simp
  refine hF.mono ?_
  rintro e wb ⟨rfl, hb⟩
  have hb2 : Below w.heap.size w wb := mono_bel hWa hb (Nat.le_refl _)
  refine hK _ _ (fun w' => Below w.heap.size w w') (st_eq kB.out) hb2 ?_
  clear hK K hF hWa hb hb2 hJ wa wb
  refine anyS_forced 15 (by kernel_rfl) rfl rfl (fun wa hWa K hK => ?_)
  have hb2 := mono_bel hWa (bel_alloc wa (.cells #[.string y] 9)) (Nat.le_refl _)
  have hz := Box.mk (parts_new wa [y] 9)
  go_simp
  refine hK _ _ (fun w' => w' = wa.alloc (.cells #[.string y] 9)) (st_eq fun w' e => e ▸ kB.out _ hb2) rfl ?_
  clear hK K hWa
  refine anyS_forced 16 (by kernel_rfl) rfl rfl (fun wb hWb K hK => ?_)
  subst hWb
  have hA2 := hA.out.here hb2
  have hRw := hA2.row.take hLB.out r (by omega)
  refine wp_pushT (.tmp 31) (.tmp 40) rfl 0 _ _ [y] rfl hRw (Nat.zero_le _) (some ⟨wa.heap.size, 0, none⟩) 1 1 rfl rfl hz.out (by have h1 := hl.out; rw [List.length_take]; omega) ?_
  intro v' w3 hp
  have hst := SNext.store (by decide) hA.out hb2 hp hpl.out
  rw [hN] at hst
  have hg3 : Pk.Blk w3 g [.int .i64 (n : Int), .slice (some ⟨gb, 0, none⟩) L c] 25 := hp.chg.blk hA2.blk fun e => hA2.apart (by decide) e
  refine hK _ _ (fun w' => w' = w3) (st_eq fun w' e => e ▸ hg3) rfl ?_
  have hrow3 := Box.mk hp.row.shape
  replace hst := Box.mk hst
  clear hK K hA2 hRw hb2 hz hp
  refine anyS_calms [17, 18] 1 rfl (fun _ => rfl) (st_eq fun w' e => e ▸ hg3) (by kernel_rfl) (by kernel_rfl) (by kernel_rfl) ?_
  simp [nth]
  try simp only [Act.put, List.setIfInBounds_toArray, List.set_cons_succ, List.set_cons_zero]
  repeat (go_big_quiet_step (first | exact fun _ => rfl | rfl))
  refine wpQuiet_nil ?_
  refine anyS_last 19 (by kernel_rfl) rfl rfl (by kernel_rfl) (by kernel_rfl) (fun wd hWd K hK => ?_)
  subst hWd
  have k5 := hg3.cell 1
  have f5 := hg3.free 1
  have hg4 := Box.mk (hg3.setCell 1 v')
  obtain ⟨va, vc, rfl⟩ := hrow3.out
  clear hrow3
  obtain ⟨M, hM⟩ : ∃ M, (P.take r ++ [y]).length = M := ⟨_, rfl⟩
  rw [hM] at hst hg4 ⊢
  obtain ⟨W4, hW4⟩ : ∃ W, wd.setCell ⟨g, 1, none⟩ (.slice va M vc) = W := ⟨_, rfl⟩
  rw [hW4] at hst hg4
  have k6 : W4.cell? ⟨g, 0, none⟩ = some (.int .i64 (n : Int)) := hg4.out.cell 0
  have f6 := hg4.out.free 0
  simp only [List.getElem?_cons_zero, List.getElem?_cons_succ] at k5
  clear hM
  go_simp
  refine hK _ _ ?_
  clear hK K k5 f5 hg3 hW4 hg4 hN
  have hn1 := hNi.out
  have hn2 := hnB.out
  go_wp2_with fail
  go_returns
  exact ⟨rfl, hst.out⟩
set_option maxHeartbeats 3200000 in
set_option maxRecDepth 100000 in
theorem append_none (g n c : Nat) (P : List ByteArray) (h : ByteArray) (w : World) (hA : SAt w 25 g n (.slice none P.length c) P) (hK : KIs w) (hT : TIs w) (hF : Fit P) (hh : h.size ≤ 70000000000000) (hn : n < 9223372036854775807) (hl : P.length ≤ 64) :
    Calls Tryd.prog 11 #[PtrS g, .string h] w fun e w' => e = .returned (.tuple #[]) ∧ SNext w 25 g (.slice none P.length c) (n + 1) (pushH n P h) w' := by
  have hg := hA.lt
  have hlen := hA.len
  have ht1 := t1_le n
  have hpl := pushH_length n P h hA.len
  unfold pushH at hpl ⊢
  have k0 : w.cell? ⟨g, 0, none⟩ = some (.int .i64 (n : Int)) := hA.blk.cell 0
  have k1 : w.cell? ⟨g, 1, none⟩ = some (.slice none P.length c) := hA.blk.cell 1
  have hPA := hA.row.pa rfl
  have hcap := hPA.cap
  have htop := hPA.top
  have hBlk := hA.blk
  obtain ⟨L, hL⟩ : ∃ L, P.length = L := ⟨_, rfl⟩
  rw [hL] at hA hlen hpl k1 hPA hcap hl hBlk ⊢
  obtain ⟨r, hr⟩ : ∃ r, L - t1 n = r := ⟨_, rfl⟩
  rw [hr] at hpl ⊢
  have hrL : r ≤ L := by omega
  have hri : (L : Int) - (t1 n : Int) = (r : Int) := by omega
  have hqr : L - r = t1 n := by omega
  have hCl := fun w' (hb : Below w.heap.size w w') => (closed_any n (by omega) w' (hT.below hb hT.lt))
  obtain ⟨q, hq⟩ : ∃ q, t1 n = q := ⟨_, rfl⟩
  rw [hq] at hCl hri hqr
  have hL0 : L = 0 := by
    rcases Nat.eq_zero_or_pos L with h0 | h0
    · exact h0
    · obtain ⟨_, _, e, _⟩ := hPA.at_ h0; cases e
  subst hL0
  obtain rfl : r = 0 := by omega
  obtain rfl : q = 0 := by omega
  have hP0 : P = [] := List.length_eq_zero_iff.1 hL
  have hJ := fun w' (hb : Below w.heap.size w w') => join_any none 0 c (P.drop 0) h w' (by subst hP0; exact hPA.here hb) (hF.drop 0) (hK.below hb hK.lt) hh
  obtain ⟨y, hy⟩ : ∃ y, jn (P.drop 0) h = y := ⟨_, rfl⟩
  rw [hy] at hJ hpl ⊢
  have k0' : Box (∀ w', Below w.heap.size w w' → w'.cell? ⟨g, 0, none⟩ = some (.int .i64 (n : Int))) := ⟨fun w' hb => (hb.cell (p := ⟨g, 0, none⟩) hg).trans k0⟩
  have k1' : Box (∀ w', Pk.Blk w' g [.int .i64 (n : Int), .slice none 0 c] 25 → w'.cell? ⟨g, 1, none⟩ = some (.slice none 0 c)) := ⟨fun w' hb => hb.cell 1⟩
  have kB : Box (∀ w', Below w.heap.size w w' → Pk.Blk w' g [.int .i64 (n : Int), .slice none 0 c] 25) := ⟨fun w' hb => (hb.block g hg).trans hBlk⟩
  have hne : ((n : Int) == 9223372036854775807) = false := by simp; omega
  obtain ⟨N, hN⟩ : ∃ N, n + 1 = N := ⟨_, rfl⟩
  have hNi : Box ((n : Int) + 1 = (N : Int)) := ⟨by omega⟩
  rw [hN] at ⊢
  replace hA := Box.mk hA
  replace hCl := Box.mk hCl
  replace hJ := Box.mk hJ
  replace hpl := Box.mk hpl
  replace hl := Box.mk hl
  have hgB := Box.mk hg
  have hnB := Box.mk hn
  have hLB := Box.mk hL
  clear hK hT hF hh hlen ht1 hPA hL hr hq hy hBlk hqr hn
  unfold PtrS
  go_enter Tryd.func11, Tryd.ntmps11
  go_wp2_with fail
  clear k0 k1 hne
  refine region_quiet (fun w' => Below w.heap.size w w') (by kernel_rfl) (by kernel_rfl) (dB _) ?_
  repeat (go_big_quiet_step (first | exact fun _ => rfl | rfl))
  refine quiet_val rfl (.slice none 0 c) (fun w' hw' => by have h3 := k1'.out w' (kB.out w' hw'); go_simp) ?_
  simp only [Act.put, List.setIfInBounds_toArray, List.set_cons_succ, List.set_cons_zero]
  repeat (go_big_quiet_step (first | exact fun _ => rfl | rfl))
  refine quiet_val rfl (.int .i64 (n : Int)) (fun w' hw' => by have h3 := k0'.out w' hw'; go_simp) ?_
  simp only [Act.put, List.setIfInBounds_toArray, List.set_cons_succ, List.set_cons_zero]
  repeat (go_big_quiet_step (first | exact fun _ => rfl | rfl))
  refine quiet_call rfl (.int .i64 (0 : Int)) (fun w' hw' => (hCl.out w' hw').mono fun e w2 ⟨he, hw2⟩ => ⟨he, hw2 ▸ hw'⟩) (fun w' _ => by go_simp) ?_
  simp only [Act.put, List.setIfInBounds_toArray, List.set_cons_succ, List.set_cons_zero]
  repeat (go_big_quiet_step (first | exact fun _ => rfl | rfl))
  refine wpQuiet_nil ?_
  clear hCl
  intro w1 hw1
  replace hw1 := Box.mk hw1
  go_wp2_with fail
  refine region_steadyC (fun w' => Pk.Blk w' g [.int .i64 (n : Int), .slice none 0 c] 25) (fun w' => Below w.heap.size w w') (fun w w' => w = w') rfl (mono_bel hw1.out (dB w1) (Nat.le_refl _)) ?_
  refine anyS_calms [0, 1, 2, 3, 4, 5, 6, 7, 8, 9, 10, 11, 12, 13] 6 rfl (fun _ => rfl) (st_eq kB.out) (by kernel_rfl) (by kernel_rfl) (by kernel_rfl) ?_
  simp [nth]
  try simp only [Act.put, List.setIfInBounds_toArray, List.set_cons_succ, List.set_cons_zero]
  repeat (go_big_quiet_step (first | exact fun _ => rfl | rfl))
  refine quiet_val rfl (.slice none 0 c) (fun w' hw' => by have h3 := k1'.out w' hw'; go_simp) ?_
  simp only [Act.put, List.setIfInBounds_toArray, List.set_cons_succ, List.set_cons_zero]
  repeat (go_big_quiet_step (first | exact fun _ => rfl | rfl))
  refine quiet_val rfl (.slice none 0 c) (fun w' hw' => by have h3 := k1'.out w' hw'; go_simp) ?_
  simp only [Act.put, List.setIfInBounds_toArray, List.set_cons_succ, List.set_cons_zero]
  repeat (go_big_quiet_step (first | exact fun _ => rfl | rfl))
  refine wpQuiet_nil ?_
  skip
  refine anyS_forced 14 (by kernel_rfl) rfl rfl (fun wa hWa K hK => ?_)
  have hF := hJ.out wa hWa
  go_simp
  refine hF.mono ?_
  rintro e wb ⟨rfl, hb⟩
  have hb2 : Below w.heap.size w wb := mono_bel hWa hb (Nat.le_refl _)
  refine hK _ _ (fun w' => Below w.heap.size w w') (st_eq kB.out) hb2 ?_
  clear hK K hF hWa hb hb2 hJ wa wb
  refine anyS_forced 15 (by kernel_rfl) rfl rfl (fun wa hWa K hK => ?_)
  have hb2 := mono_bel hWa (bel_alloc wa (.cells #[.string y] 9)) (Nat.le_refl _)
  have hz := Box.mk (parts_new wa [y] 9)
  go_simp
  refine hK _ _ (fun w' => w' = wa.alloc (.cells #[.string y] 9)) (st_eq fun w' e => e ▸ kB.out _ hb2) rfl ?_
  clear hK K hWa
  refine anyS_forced 16 (by kernel_rfl) rfl rfl (fun wb hWb K hK => ?_)
  subst hWb
  have hA2 := hA.out.here hb2
  have hRw := hA2.row.take hLB.out 0 (by omega)
  refine wp_pushT (.tmp 31) (.tmp 40) rfl 0 _ _ [y] rfl hRw (Nat.zero_le _) (some ⟨wa.heap.size, 0, none⟩) 1 1 rfl rfl hz.out (by have h1 := hl.out; rw [List.length_take]; omega) ?_
  intro v' w3 hp
  have hst := SNext.store (by decide) hA.out hb2 hp hpl.out
  rw [hN] at hst
  have hg3 : Pk.Blk w3 g [.int .i64 (n : Int), .slice none 0 c] 25 := hp.chg.blk hA2.blk fun e => hA2.apart (by decide) e
  refine hK _ _ (fun w' => w' = w3) (st_eq fun w' e => e ▸ hg3) rfl ?_
  have hrow3 := Box.mk hp.row.shape
  replace hst := Box.mk hst
  clear hK K hA2 hRw hb2 hz hp
  refine anyS_calms [17, 18] 1 rfl (fun _ => rfl) (st_eq fun w' e => e ▸ hg3) (by kernel_rfl) (by kernel_rfl) (by kernel_rfl) ?_
  simp [nth]
  try simp only [Act.put, List.setIfInBounds_toArray, List.set_cons_succ, List.set_cons_zero]
  repeat (go_big_quiet_step (first | exact fun _ => rfl | rfl))
  refine wpQuiet_nil ?_
  refine anyS_last 19 (by kernel_rfl) rfl rfl (by kernel_rfl) (by kernel_rfl) (fun wd hWd K hK => ?_)
  subst hWd
  have k5 := hg3.cell 1
  have f5 := hg3.free 1
  have hg4 := Box.mk (hg3.setCell 1 v')
  obtain ⟨va, vc, rfl⟩ := hrow3.out
  clear hrow3
  obtain ⟨M, hM⟩ : ∃ M, (P.take 0 ++ [y]).length = M := ⟨_, rfl⟩
  rw [hM] at hst hg4 ⊢
  obtain ⟨W4, hW4⟩ : ∃ W, wd.setCell ⟨g, 1, none⟩ (.slice va M vc) = W := ⟨_, rfl⟩
  rw [hW4] at hst hg4
  have k6 : W4.cell? ⟨g, 0, none⟩ = some (.int .i64 (n : Int)) := hg4.out.cell 0
  have f6 := hg4.out.free 0
  simp only [List.getElem?_cons_zero, List.getElem?_cons_succ] at k5
  clear hM
  go_simp
  refine hK _ _ ?_
  clear hK K k5 f5 hg3 hW4 hg4 hN
  have hn1 := hNi.out
  have hn2 := hnB.out
  go_wp2_with fail
  go_returns
  exact ⟨rfl, hst.out⟩
theorem append_any (g n : Nat) (v : Value) (P : List ByteArray) (h : ByteArray) (w : World) (hA : SAt w 25 g n v P) (hK : KIs w) (hT : TIs w) (hF : Fit P) (hh : h.size ≤ 70000000000000) (hn : n < 9223372036854775807) (hl : P.length ≤ 64) :
    Calls Tryd.prog 11 #[PtrS g, .string h] w fun e w' => e = .returned (.tuple #[]) ∧ SNext w 25 g v (n + 1) (pushH n P h) w' := by
  obtain ⟨_, ⟨h1, h0⟩ | ⟨gb, cap, cur, h1, _⟩⟩ := hA.row
  · have h2 : v = .slice none P.length 0 := by rw [h1, h0]
    subst h2
    exact append_none g n 0 P h w hA hK hT hF hh hn hl
  · subst h1
    exact append_some g n gb cap P h w hA hK hT hF hh hn hl
end Go.Proofs.YtakmlbnjgkfaiaaDoor

namespace Go.Proofs.YtakmlbnjgkfaiaaDoor
open Go Go.RowKit

theorem rpowers_any (n : Nat) (hn : n < 9223372036854775808) (w : World) :
    Calls Tryd.prog 36 #[.int .i64 (n : Int)] w fun e w' => e = .returned (.int .i64 (pcN n : Int)) ∧ w = w' := by
  have h64 : pcN n ≤ 63 := pcN_le 63 n hn
  have hS0 : Box (pcN n = 0 + pcN n) := ⟨by omega⟩
  go_enter Tryd.func36, Tryd.ntmps36
  go_wp2_with fail
  go_loopw [0, 3] (fun v0 v3 wr => ∃ m c : Nat, v0 = .int .i64 (m : Int) ∧ v3 = .int .i64 (c : Int) ∧ m < 9223372036854775808 ∧ Box (pcN n = c + pcN m) ∧ w = wr) (fun v0 _ _ => (intOf v0).toNat)
  case atStart => exact ⟨n, 0, rfl, rfl, hn, hS0, rfl⟩
  case round =>
    clear hS0
    obtain ⟨m, c, rfl, rfl, hm, hc, rfl⟩ := hrel
    by_cases hlt : 0 < m
    · have h1 := pcN_half m
      have h2 := pcN_pos m hlt
      obtain ⟨q, hq⟩ : ∃ q, m / 2 = q := ⟨_, rfl⟩
      obtain ⟨b, hb⟩ : ∃ b, m % 2 = b := ⟨_, rfl⟩
      have hbm : (m : Int).tmod 2 = (b : Int) := by rw [Int.tmod_eq_emod_of_nonneg (by omega)]; omega
      have hqm : (m : Int).tdiv 2 = (q : Int) := by rw [Int.tdiv_eq_ediv_of_nonneg (by omega)]; omega
      have hc64 : c ≤ 63 := by have := hc.out; omega
      obtain ⟨c2, hc2⟩ : ∃ x, c + b = x := ⟨_, rfl⟩
      have hci : (c : Int) + (b : Int) = (c2 : Int) := by omega
      have hc3 : Box (pcN n = c2 + pcN q) := ⟨by have := hc.out; rw [hq, hb] at h1; omega⟩
      have hqlt : q < m := by omega
      have hmi : (m : Int) > 0 := by omega
      have hb1 : b ≤ 1 := by omega
      clear h1 h2 hc hq hb hc2
      go_wp2_with fail
      exact ⟨⟨q, c2, rfl, rfl, by omega, hc3, trivial⟩, by simp [intOf]; omega⟩
    · obtain rfl : m = 0 := by omega
      have e : pcN n = c := by have := hc.out; rw [pcN_zero] at this; omega
      go_wp2_with fail
      go_returns
      exact ⟨by rw [e]; rfl, rfl⟩
set_option maxHeartbeats 800000 in
set_option maxRecDepth 100000 in
theorem rload_ok (n : Nat) (a : Option Addr) (m c : Nat) (P : List ByteArray) (w : World) (hP : PA w a m c P) (hn : n < 9223372036854775808) (hl : P.length = pcN n) (hm : m ≤ 64) :
    Calls Tryd.prog 19 #[.int .i64 (n : Int), .slice a m c] w (NewE w 45 n P) := by
  have hW := rpowers_any n hn w
  have hmp : m = pcN n := by rw [← hl, hP.len]
  rw [← hmp] at hW
  have hneq : ((m : Int) != (m : Int)) = false := by simp
  have hnn : ¬ ((n : Int) < 0) := by omega
  have hlB := Box.mk hl
  have hT0 : Box (TxR w.heap.size (w.alloc (.cells #[] 9)) (.slice (some ⟨w.heap.size, 0, none⟩) 0 0) []) := ⟨⟨rfl, .inr ⟨w.heap.size, 0, #[], rfl, Nat.le_refl _, heap_alloc_new w _, Nat.le_refl _, by unfold maxLen; omega, rfl, rfl⟩⟩⟩
  have hPa : Box (PartsAt (w.alloc (.cells #[] 9)) (.slice a m c) P) := ⟨(hP.here (bel_alloc w _)).parts⟩
  have hlen := Box.mk hP.len
  have hmB := Box.mk hm
  clear hP hl hmp hm
  go_enter Tryd.func19, Tryd.ntmps19
  go_wp2_with fail
  refine hW.mono ?_
  rintro e w1 ⟨rfl, rfl⟩
  clear hW
  go_wp2_with (at_builtin; refine wpList_pushT rfl (.tmp 16) (.tmp 17) rfl w.heap.size _ [] P rfl hT0.out (by simp) a m c rfl hlen.out hPa.out (by have := hmB.out; simp; omega) ?_)
  rintro v2 w2 hp
  have hN := Box.mk (SNew.box (t := 45) (n := n) hp.row (hp.bel (bel_alloc w _) hT0.out) hlB.out)
  obtain ⟨a2, c2, rfl⟩ := hp.row.shape
  clear hp hT0 hPa
  go_wp2_with fail
  go_returns
  exact ⟨_, rfl, hN.out⟩
set_option maxHeartbeats 800000 in
set_option maxRecDepth 100000 in
theorem rload_bad (n : Int) (a : Option Addr) (m c : Nat) (w : World) (hn : -9223372036854775808 ≤ n ∧ n < 9223372036854775808) (hb : n < 0 ∨ m ≠ pcN n.toNat) :
    Calls Tryd.prog 19 #[.int .i64 n, .slice a m c] w fun e w' => e = .returned (.tuple #[.pointer none, .int .i64 1]) ∧ w = w' := by
  by_cases h0 : n < 0
  · clear hb
    go_enter Tryd.func19, Tryd.ntmps19
    go_wp2_with fail
    go_returns
    exact ⟨rfl, rfl⟩
  · obtain ⟨k, rfl⟩ : ∃ k : Nat, n = k := ⟨n.toNat, by omega⟩
    have hW := rpowers_any k (by omega) w
    have hne : m ≠ pcN k := by
      rcases hb with h | h
      · omega
      · simpa using h
    obtain ⟨q, hq⟩ : ∃ q, pcN k = q := ⟨_, rfl⟩
    rw [hq] at hW hne
    have hneq : ((m : Int) != (q : Int)) = true := by simp; omega
    clear hb hq hne
    go_enter Tryd.func19, Tryd.ntmps19
    go_wp2_with fail
    refine hW.mono ?_
    rintro e w1 ⟨rfl, rfl⟩
    clear hW
    go_wp2_with fail
    go_returns
    exact ⟨rfl, rfl⟩
/-- The document's peaks behind j mergings. -/
def mg (P : List ByteArray) (h : ByteArray) (j : Nat) : List ByteArray := P.take (P.length - j) ++ [jn (P.drop (P.length - j)) h]
theorem mg_len (P : List ByteArray) (h : ByteArray) (j : Nat) (hj : j ≤ P.length) : (mg P h j).length = P.length - j + 1 := by
  rw [mg, List.length_append, List.length_take, List.length_singleton]; omega
theorem mg_zero (P : List ByteArray) (h : ByteArray) : mg P h 0 = P ++ [h] := by
  rw [mg, Nat.sub_zero, List.take_length, List.drop_length]; rfl
theorem mg_last (P : List ByteArray) (h : ByteArray) (j : Nat) (hj : j < P.length) :
    (mg P h j).getD (P.length - j - 1) ByteArray.empty = P.getD (P.length - j - 1) ByteArray.empty ∧ (mg P h j).getD (P.length - j) ByteArray.empty = jn (P.drop (P.length - j)) h ∧
    (mg P h j).take (P.length - j - 1) ++ [nodeH (P.getD (P.length - j - 1) ByteArray.empty) (jn (P.drop (P.length - j)) h)] = mg P h (j + 1) := by
  have hi : P.length - j - 1 < P.length := by omega
  have hl : (P.take (P.length - j)).length = P.length - j := by rw [List.length_take]; omega
  refine ⟨?_, ?_, ?_⟩
  · rw [mg, List.getD_eq_getElem?_getD, List.getElem?_append_left (by omega), List.getElem?_take_of_lt (by omega), ← List.getD_eq_getElem?_getD]
  · rw [mg, List.getD_eq_getElem?_getD, List.getElem?_append_right (by omega), hl, Nat.sub_self]; rfl
  · rw [mg, mg, List.take_append_of_le_length (by omega), List.take_take, Nat.min_eq_left (by omega), show P.length - (j + 1) = P.length - j - 1 by omega]
    congr 2
    have hd := List.drop_eq_getElem_cons hi
    rw [show P.length - j - 1 + 1 = P.length - j by omega] at hd
    rw [hd, List.getD_eq_getElem?_getD, List.getElem?_eq_getElem hi]
    rfl
theorem fit_snoc {l : List ByteArray} (h : Fit l) {x : ByteArray} (hx : x.size ≤ 70000000000000) : Fit (l ++ [x]) := fun y hy => by
  rcases List.mem_append.1 hy with h1 | h1
  · exact h y h1
  · rw [List.mem_singleton.1 h1]; exact hx
theorem fit_mg {P : List ByteArray} {h : ByteArray} (hF : Fit P) (hh : h.size ≤ 70000000000000) (j : Nat) : Fit (mg P h j) := fit_snoc (hF.take _) (jn_size _ _ hh)
/-- A new row put into a span's place. -/
theorem SNext.put {w0 w1 : World} {t : TypeId} {g n : Nat} {v v' : Value} {P P' : List ByteArray} (ht : t ≠ 9) (hA : SAt w0 t g n v P) (hb : Below w0.heap.size w0 w1) (hr : TxR w0.heap.size w1 v' P')
    (hlen : P'.length = pcN (n + 1)) : SNext w0 t g v (n + 1) P' ((w1.setCell ⟨g, 1, none⟩ v').setCell ⟨g, 0, none⟩ (.int .i64 ((n + 1 : Nat) : Int))) := by
  have hg1 := (hA.here hb).blk
  have hne : ∀ j, v'.ownBlock = some j → j ≠ g := fun j hj e => by
    subst e
    exact Pk.Row.apart (TxR.base hr (Nat.zero_le _)) hg1 ht hj
  have c2 : Pk.Chg (fun i => i = g) w1 ((w1.setCell ⟨g, 1, none⟩ v').setCell ⟨g, 0, none⟩ (.int .i64 ((n + 1 : Nat) : Int))) := ((Pk.Chg.refl (fun i => i = g) w1).setCell (p := ⟨g, 1, none⟩) rfl v').setCell (p := ⟨g, 0, none⟩) rfl _
  refine ⟨v', ⟨(hg1.setCell 1 v').setCell 0 (.int .i64 ((n + 1 : Nat) : Int)), (hr.base (Nat.zero_le _)).chg c2 fun j hj e => hne j hj e, hlen⟩, ?_, fun j hj => .inr (hr.own j hj).1⟩
  have c0 : Pk.Chg (fun i => i = g ∨ v.ownBlock = some i) w0 w1 := (Pk.Chg.of_below hb).mono fun i hi e => absurd e (by omega)
  exact c0.trans c2 fun _ _ h => .inl h
set_option maxHeartbeats 1600000 in
set_option maxRecDepth 100000 in
theorem rappend_any (g n : Nat) (v : Value) (P : List ByteArray) (h : ByteArray) (w : World) (hA : SAt w 45 g n v P) (hF : Fit P) (hh : h.size ≤ 70000000000000) (hn : n < 9223372036854775807) (hl : P.length ≤ 64) :
    Calls Tryd.prog 21 #[PtrS g, .string h] w fun e w' => e = .returned (.tuple #[]) ∧ SNext w 45 g v (n + 1) (pushH n P h) w' := by
  have hg := hA.lt
  have ht1 := t1_le n
  have hlen := hA.len
  have hpl := pushH_length n P h hA.len
  have hpm : pushH n P h = mg P h (t1 n) := rfl
  rw [hpm] at hpl ⊢
  obtain ⟨a, c, rfl⟩ := hA.row.shape
  have k0 : w.cell? ⟨g, 0, none⟩ = some (.int .i64 (n : Int)) := hA.blk.cell 0
  have k1 : w.cell? ⟨g, 1, none⟩ = some (.slice a P.length c) := hA.blk.cell 1
  obtain ⟨L, hL⟩ : ∃ L, P.length = L := ⟨_, rfl⟩
  rw [hL] at hA k1 hl hlen ⊢
  have hT0 : Box (TxR w.heap.size (w.alloc (.cells #[] 9)) (.slice (some ⟨w.heap.size, 0, none⟩) 0 0) []) := ⟨⟨rfl, .inr ⟨w.heap.size, 0, #[], rfl, Nat.le_refl _, heap_alloc_new w _, Nat.le_refl _, by unfold maxLen; omega, rfl, rfl⟩⟩⟩
  have k1' : (w.alloc (.cells #[] 9)).cell? ⟨g, 1, none⟩ = some (.slice a L c) := ((bel_alloc w (.cells #[] 9)).cell (p := ⟨g, 1, none⟩) hg).trans k1
  have hPa : Box (PartsAt (w.alloc (.cells #[] 9)) (.slice a L c) P) := ⟨(hA.row.base (Nat.zero_le 0)).here (bel_alloc w (.cells #[] 9)) |>.parts⟩
  have hAB := Box.mk hA
  have hLB := Box.mk hL
  have hlB := Box.mk hl
  have hplB := Box.mk hpl
  have hFB := Box.mk hF
  have hhB := Box.mk hh
  have hgB := Box.mk hg
  have hnB := Box.mk hn
  have htB : Box (t1 n ≤ L) := ⟨by omega⟩
  obtain ⟨N, hN⟩ : ∃ N, n + 1 = N := ⟨_, rfl⟩
  have hNi : Box ((n : Int) + 1 = (N : Int)) := ⟨by omega⟩
  have hput := Box.mk fun w1 v' (hb : Below w.heap.size w w1) (hr : TxR w.heap.size w1 v' (mg P h (t1 n))) => SNext.put (by decide) hA hb hr hpl
  rw [hN] at hput ⊢
  clear hA hL hl hpl hF hpm ht1 hlen hn hN
  unfold PtrS
  go_enter Tryd.func21, Tryd.ntmps21
  go_wp2_with (at_builtin; refine wpList_pushT rfl (.tmp 7) (.tmp 11) rfl w.heap.size _ [] P rfl hT0.out (by simp) a L c rfl hLB.out hPa.out (by have := hlB.out; simp; omega) ?_)
  rintro v2 w2 hp
  have hb2 := hp.bel (bel_alloc w _) hT0.out
  have hr2 := hp.row
  obtain ⟨a2, c2, rfl⟩ := hr2.shape
  replace hr2 := Box.mk hr2
  replace hb2 := Box.mk hb2
  rw [hLB.out] at hr2 ⊢
  have hz := Box.mk (parts_new w2 [h] 9)
  clear hp hT0 hPa k1'
  go_wp2_with (at_builtin; refine wpList_pushT rfl (.tmp 13) (.tmp 15) rfl w.heap.size _ P [h] rfl (hr2.out.here (bel_alloc _ _)) (by have := hb2.out.size; simp; omega) (some ⟨w2.heap.size, 0, none⟩) 1 1 rfl rfl hz.out (by have h1 := hlB.out; rw [hLB.out]; omega) ?_)
  rintro v3 w3 hp
  have hb3 := hp.bel (mono_bel hb2.out (bel_alloc _ _) (Nat.le_refl _)) (hr2.out.here (bel_alloc _ _))
  have hr3 := hp.row
  rw [← mg_zero] at hr3
  have k3 : w3.cell? ⟨g, 0, none⟩ = some (.int .i64 (n : Int)) := (hb3.cell (p := ⟨g, 0, none⟩) hgB.out).trans k0
  have hI0 : Box (TxR w.heap.size w3 v3 (mg P h 0) ∧ Below w.heap.size w w3) := ⟨hr3, hb3⟩
  obtain ⟨T, hT⟩ : ∃ T, t1 n = T := ⟨_, rfl⟩
  have hT0 : Box (T = 0 + t1 n) := ⟨by omega⟩
  rw [hT] at htB
  have hTB := Box.mk hT
  clear hp hb2 hr2 hz hb3 hr3 k0 hT
  go_wp2_with fail
  go_loopw [4, 5, 6] (fun v4 v5 _ wr => ∃ m j : Nat, v5 = .int .i64 (m : Int) ∧ m < 9223372036854775807 ∧ j ≤ T ∧ Box (T = j + t1 m) ∧ Box (TxR w.heap.size wr v4 (mg P h j) ∧ Below w.heap.size w wr)) (fun _ v5 _ _ => (intOf v5).toNat)
  case atStart => exact ⟨n, 0, rfl, hnB.out, Nat.zero_le _, hT0, hI0⟩
  case round =>
    clear hI0 hT0 k3
    obtain ⟨m, j, rfl, hm, hj, hTj, hI⟩ := hrel
    rcases Nat.mod_two_eq_zero_or_one m with h2 | h2
    · have hz : j = T := by have := hTj.out; rw [t1_even m h2] at this; omega
      have hm2 : (m : Int).tmod 2 = 0 := by rw [Int.tmod_eq_emod_of_nonneg (by omega)]; omega
      rw [hz, ← hTB.out] at hI
      obtain ⟨a4, c4, rfl⟩ := hI.out.1.shape
      obtain ⟨K, hK⟩ : ∃ K, (mg P h (t1 n)).length = K := ⟨_, rfl⟩
      rw [hK] at hI ⊢
      have hfin := hput.out wr _ hI.out.2 hI.out.1
      have hBk := (hAB.out.here hI.out.2).blk
      have q0 : wr.cell? ⟨g, 0, none⟩ = some (.int .i64 (n : Int)) := hBk.cell 0
      have q1 : wr.cell? ⟨g, 1, none⟩ = some (.slice a L c) := hBk.cell 1
      have f1 := hBk.free 1
      have hBk2 := hBk.setCell 1 (.slice a4 K c4)
      obtain ⟨W4, hW4⟩ : ∃ W, wr.setCell ⟨g, 1, none⟩ (.slice a4 K c4) = W := ⟨_, rfl⟩
      rw [hW4] at hfin hBk2
      have q2 : W4.cell? ⟨g, 0, none⟩ = some (.int .i64 (n : Int)) := hBk2.cell 0
      have f2 := hBk2.free 0
      have hn1 := hNi.out
      have hn2 := hnB.out
      replace hfin := Box.mk hfin
      clear hI hBk hBk2 hTj hj hz hm h2
      go_wp2_with fail
      go_returns
      exact ⟨rfl, hfin.out⟩
    · have ht := t1_odd m h2
      have hjT : j < T := by have := hTj.out; omega
      have hm2 : (m : Int).tmod 2 = 1 := by rw [Int.tmod_eq_emod_of_nonneg (by omega)]; omega
      obtain ⟨q, hq⟩ : ∃ q, m / 2 = q := ⟨_, rfl⟩
      have hqm : (m : Int).tdiv 2 = (q : Int) := by rw [Int.tdiv_eq_ediv_of_nonneg (by omega)]; omega
      have hqlt : q < m := by omega
      have hTj' : Box (T = j + 1 + t1 q) := ⟨by have := hTj.out; rw [← hq]; omega⟩
      have hjL : j < P.length := by have h1 := htB.out; have h3 := hLB.out; omega
      obtain ⟨e1, e2, e3⟩ := mg_last P h j hjL
      have hml := mg_len P h j (by omega)
      have hfit := fit_mg hFB.out hhB.out j
      obtain ⟨i, hi⟩ : ∃ i, P.length - j - 1 = i := ⟨_, rfl⟩
      obtain ⟨i1, hi1⟩ : ∃ i1, P.length - j = i1 := ⟨_, rfl⟩
      obtain ⟨K, hK⟩ : ∃ K, (mg P h j).length = K := ⟨_, rfl⟩
      rw [hi] at e1 e3
      rw [hi1] at e2 hml
      rw [hi1] at e3
      obtain ⟨R, hR⟩ : ∃ R, mg P h j = R := ⟨_, rfl⟩
      rw [hR] at hI e1 e2 e3 hfit hK hml
      obtain ⟨x, hx⟩ : ∃ x, P.getD i ByteArray.empty = x := ⟨_, rfl⟩
      obtain ⟨y, hy⟩ : ∃ y, jn (P.drop i1) h = y := ⟨_, rfl⟩
      rw [hx] at e1 e3
      rw [hy] at e2 e3
      have hxs : x.size ≤ 70000000000000 := by rw [← e1]; exact fit_getD hfit i
      have hys : y.size ≤ 70000000000000 := by rw [← e2]; exact fit_getD hfit i1
      obtain ⟨a4, c4, rfl⟩ := hI.out.1.shape
      rw [hK] at hI ⊢
      have hPA := hI.out.1.pa hK
      have hcap := hPA.cap
      have htop := hPA.top
      obtain ⟨blk, off, rfl, hblk, hcell⟩ := hPA.at_ (by omega)
      have hki : (K : Int) - 2 = (i : Int) := by omega
      have hki1 : (K : Int) - 1 = (i1 : Int) := by omega
      have hiK : i < K := by omega
      have hi1K : i1 < K := by omega
      have hic : i ≤ c4 := by omega
      have hK65 : K ≤ 65 := by have h1 := hlB.out; have h2 := hLB.out; omega
      have cx : Box (∀ w', Below wr.heap.size wr w' → w'.cell? ⟨blk, off + i, none⟩ = some (.string x)) := ⟨fun w' hb => by
        rw [hb.cell (p := ⟨blk, off + i, none⟩) hblk, hcell i hiK, e1]⟩
      have cy : Box (∀ w', Below wr.heap.size wr w' → w'.cell? ⟨blk, off + i1, none⟩ = some (.string y)) := ⟨fun w' hb => by
        rw [hb.cell (p := ⟨blk, off + i1, none⟩) hblk, hcell i1 hi1K, e2]⟩
      obtain ⟨z, hz⟩ : ∃ z, nodeH x y = z := ⟨_, rfl⟩
      have hNd := Box.mk fun w' => rnode_any x y w' hxs hys
      rw [hz] at hNd e3
      have hKB := Box.mk hK
      have e3B := Box.mk e3
      have hjB := Box.mk hjT
      clear hPA hcell hcap hxs hys e1 e2 e3 hfit hml hq hx hy hR hi hi1 hK hjL ht hTj hj hz hjT
      go_wp2_with fail
      refine region_steadyC (fun w' => Below wr.heap.size wr w') (fun w' => Below wr.heap.size wr w') (fun w w' => w = w') rfl (dB wr) ?_
      refine anyS_calms [0, 1, 2, 3, 4, 5, 6, 7, 8, 9, 10, 11, 12, 13] 4 rfl (fun _ => rfl) (st_eq fun _ h => h) (by kernel_rfl) (by kernel_rfl) (by kernel_rfl) ?_
      simp [nth]
      try simp only [Act.put, List.setIfInBounds_toArray, List.set_cons_succ, List.set_cons_zero]
      repeat (go_big_quiet_step (first | exact fun _ => rfl | rfl))
      refine quiet_val rfl (.string x) (fun w' hw' => by have h3 := cx.out w' hw'; go_simp) ?_
      simp only [Act.put, List.setIfInBounds_toArray, List.set_cons_succ, List.set_cons_zero]
      repeat (go_big_quiet_step (first | exact fun _ => rfl | rfl))
      refine quiet_val rfl (.string y) (fun w' hw' => by have h3 := cy.out w' hw'; go_simp) ?_
      simp only [Act.put, List.setIfInBounds_toArray, List.set_cons_succ, List.set_cons_zero]
      repeat (go_big_quiet_step (first | exact fun _ => rfl | rfl))
      refine wpQuiet_nil ?_
      refine anyS_forced 14 (by kernel_rfl) rfl rfl (fun wa hWa K9 hK9 => ?_)
      have hF := hNd.out wa
      go_simp
      refine hF.mono ?_
      rintro e wb ⟨rfl, hb⟩
      refine hK9 _ _ (fun w' => Below wr.heap.size wr w') (st_eq fun _ h => h) (mono_bel hWa hb (Nat.le_refl _)) ?_
      clear hK9 K9 hF hWa hb wa wb
      refine anyS_forced 15 (by kernel_rfl) rfl rfl (fun wa hWa K9 hK9 => ?_)
      have hb2 := mono_bel hWa (bel_alloc wa (.cells #[.string z] 9)) (Nat.le_refl _)
      have hz2 := Box.mk (parts_new wa [z] 9)
      go_simp
      refine hK9 _ _ (fun w' => w' = wa.alloc (.cells #[.string z] 9)) (st_eq fun w' e => e ▸ hb2) rfl ?_
      clear hK9 K9 hWa
      refine anyS_end 16 (by kernel_rfl) rfl rfl (by kernel_rfl) (fun wb hWb K9 hK9 => ?_)
      subst hWb
      have hRw := (hI.out.1.here hb2).take hKB.out i (by omega)
      refine wp_pushT (.tmp 31) (.tmp 43) rfl w.heap.size _ _ [z] rfl hRw (by have h1 := hI.out.2.size; have h2 := hb2.size; omega) (some ⟨wa.heap.size, 0, none⟩) 1 1 rfl rfl hz2.out (by rw [List.length_take]; omega) ?_
      intro v' w3 hp
      have hT9 := hp.row
      rw [e3B.out] at hT9
      have hI9 : Box (TxR w.heap.size w3 v' (mg P h (j + 1)) ∧ Below w.heap.size w w3) := ⟨hT9, hp.bel (mono_bel hI.out.2 hb2 (Nat.le_refl _)) hRw⟩
      refine hK9 _ _ ?_
      clear hK9 K9 hRw hb2 hz2 hp hT9 cx cy hNd hI
      refine go_forced 17 (by kernel_rfl) (goOp_wp 17 rfl rfl (fun K9 hK9 => ?_))
      go_simp
      refine hK9 _ _ trivial ?_
      clear hK9 K9
      refine go_done (by kernel_rfl) ?_
      go_wp2_with fail
      exact ⟨⟨q, j + 1, rfl, by omega, hjB.out, hTj', hI9⟩, by simp [intOf]; omega⟩
end Go.Proofs.YtakmlbnjgkfaiaaDoor

namespace Go.Proofs.YtakmlbnjgkfaiaaDoor
open Go Go.RowKit

theorem jn_drop (P : List ByteArray) (h : ByteArray) (i : Nat) (hi : i < P.length) : nodeH (P.getD i ByteArray.empty) (jn (P.drop (i + 1)) h) = jn (P.drop i) h := by
  have hd := List.drop_eq_getElem_cons hi
  rw [hd, List.getD_eq_getElem?_getD, List.getElem?_eq_getElem hi]
  rfl
set_option maxHeartbeats 1600000 in
set_option maxRecDepth 100000 in
theorem rsroot_any (g n : Nat) (v : Value) (P : List ByteArray) (w : World) (h : SAt w 45 g n v P) (hF : Fit P) (hl : P.length ≤ 64) :
    Calls Tryd.prog 37 #[PtrS g] w fun e w' => e = .returned (.string (foldP P)) ∧ Below w.heap.size w w' := by
  obtain ⟨a, c, rfl⟩ := h.row.shape
  have k1 : w.cell? ⟨g, 1, none⟩ = some (.slice a P.length c) := h.blk.cell 1
  have hPA := h.row.pa rfl
  have hg := h.lt
  unfold PtrS
  rcases Nat.eq_zero_or_pos P.length with h0 | h0
  · have hS := rsum_parts (.slice none 0 0) [] w ⟨none, 0, rfl, fun h => absurd h (Nat.lt_irrefl 0)⟩ (by simp [flat]) (by simp)
    have hP0 : P = [] := List.length_eq_zero_iff.1 h0
    subst hP0
    rw [show hashOf (flat []) = foldP [] from rfl] at hS
    obtain ⟨y, hy⟩ : ∃ y, foldP [] = y := ⟨_, rfl⟩
    rw [hy] at hS ⊢
    clear h hF hl hPA h0 hy
    simp only [List.length_nil] at k1
    go_enter Tryd.func37, Tryd.ntmps37
    go_wp2_with fail
    refine hS.mono ?_
    rintro e w3 ⟨rfl, hb3⟩
    clear hS
    replace hb3 := Box.mk hb3
    go_wp2_with fail
    go_ret
    exact ⟨rfl, hb3.out⟩
  · obtain ⟨m, hm⟩ : ∃ m, P.length = m + 1 := ⟨P.length - 1, by omega⟩
    rw [foldP_last P m hm]
    obtain ⟨blk, off, rfl, hlt, hcell⟩ := hPA.at_ (by omega)
    have hcap := hPA.cap
    have htop := hPA.top
    obtain ⟨L, hL⟩ : ∃ L, P.length = L := ⟨_, rfl⟩
    rw [hL] at hPA k1 hl h0 hm hcap hcell
    have hcm := hcell m (by omega)
    have hxs : (P.getD m ByteArray.empty).size ≤ 70000000000000 := fit_getD hF m
    obtain ⟨x, hx⟩ : ∃ x, P.getD m ByteArray.empty = x := ⟨_, rfl⟩
    rw [hx] at hcm hxs ⊢
    have hLm1 : (L : Int) - 1 = (m : Int) := by omega
    have hLm2 : (L : Int) - 2 = (m : Int) - 1 := by omega
    have hne : ((L : Int) == 0) = false := by simp; omega
    have hmL : m < L := by omega
    have hI0 : Box (Below w.heap.size w w) := ⟨Below.refl _ _⟩
    have htk : ∀ i, i < m → (P.take m).getD i ByteArray.empty = P.getD i ByteArray.empty := fun i hi => by
      rw [List.getD_eq_getElem?_getD, List.getElem?_take_of_lt hi, ← List.getD_eq_getElem?_getD]
    have htl : (P.take m).length = m := by rw [List.length_take]; omega
    have hjs := fun i => jn_size ((P.take m).drop i) x hxs
    obtain ⟨Q, hQ⟩ : ∃ Q, P.take m = Q := ⟨_, rfl⟩
    rw [hQ] at htk htl hjs ⊢
    have hFg := fit_getD hF
    have hd0 : jn (Q.drop m) x = x := by rw [List.drop_eq_nil_of_le (by omega)]; rfl
    replace hcell := Box.mk hcell
    replace htk := Box.mk htk
    replace hjs := Box.mk hjs
    replace hFg := Box.mk hFg
    replace hd0 := Box.mk hd0
    replace htl := Box.mk htl
    have hk1 := Box.mk k1
    clear h hF hPA hx hxs hQ hL hm
    go_enter Tryd.func37, Tryd.ntmps37
    go_wp2_with fail
    go_loopw [4, 5] (fun v4 v5 wr => ∃ i : Nat, i ≤ m ∧ v5 = .int .i64 ((i : Int) - 1) ∧ v4 = .string (jn (Q.drop i) x) ∧ Box (Below w.heap.size w wr)) (fun _ v5 _ => (intOf v5 + 1).toNat)
    case atStart => exact ⟨m, Nat.le_refl _, rfl, by rw [hd0.out], hI0⟩
    case round =>
      clear hI0 hcm k1
      obtain ⟨i, hi, rfl, rfl, hB⟩ := hrel
      have kk : wr.cell? ⟨g, 1, none⟩ = some (.slice (some ⟨blk, off, none⟩) L c) := (hB.out.cell (p := ⟨g, 1, none⟩) hg).trans hk1.out
      cases i with
      | zero =>
        rw [List.drop_zero]
        go_wp2_with fail
        go_ret
        exact ⟨rfl, hB.out⟩
      | succ j =>
        have e1 : ((j + 1 : Nat) : Int) - 1 = (j : Int) := by omega
        rw [e1]
        clear e1
        have hjL : j < L := by omega
        have cj : wr.cell? ⟨blk, off + j, none⟩ = some (.string (P.getD j ByteArray.empty)) := (hB.out.cell (p := ⟨blk, off + j, none⟩) hlt).trans (hcell.out j hjL)
        have hzs := hjs.out (j + 1)
        have hqs := hFg.out j
        have hst := jn_drop Q x j (by rw [htl.out]; omega)
        rw [htk.out j (by omega)] at hst
        obtain ⟨z, hz⟩ : ∃ z, jn (Q.drop (j + 1)) x = z := ⟨_, rfl⟩
        obtain ⟨q, hq⟩ : ∃ q, P.getD j ByteArray.empty = q := ⟨_, rfl⟩
        obtain ⟨z2, hz2⟩ : ∃ z, jn (Q.drop j) x = z := ⟨_, rfl⟩
        rw [hz] at hzs hst ⊢
        rw [hq] at hqs hst cj
        rw [hz2] at hst
        have hNd := rnode_any q z wr hqs hzs
        rw [hst] at hNd
        have hz2B := Box.mk hz2
        have hjB : Box (j ≤ m) := ⟨by omega⟩
        clear hzs hqs hst hz hq hz2 hi
        go_wp2_with fail
        refine hNd.mono ?_
        rintro e w4 ⟨rfl, hb4⟩
        clear hNd cj kk
        have hB4 := Box.mk (mono_bel hB.out hb4 (Nat.le_refl _))
        clear hb4
        go_wp2_with fail
        exact ⟨⟨j, hjB.out, by go_num, by rw [hz2B.out], hB4⟩, by simp [intOf]; try omega⟩
/-- The powers, from 2^30 down to 1, and then nothing. -/
def pw (e : Nat) : Nat := 2 ^ e / 2
theorem pw_succ (e : Nat) : pw (e + 1) = 2 ^ e := by rw [pw, Nat.pow_succ]; omega
theorem pw_half (e : Nat) : pw (e + 1) / 2 = pw e := by rw [pw_succ, pw]
theorem fpk_pw (e : Nat) (l : List ByteArray) : fpk (e + 1) l = if pw (e + 1) ≤ l.length then rootL (l.take (pw (e + 1))) :: fpk e (l.drop (pw (e + 1))) else fpk e l := by rw [fpk, pw_succ]
theorem fpk_len : ∀ (e : Nat) (l : List ByteArray), (fpk e l).length ≤ e
  | 0, _ => Nat.le_refl 0
  | e + 1, l => by
    rw [fpk]
    split
    · rw [List.length_cons]; have := fpk_len e (l.drop (2 ^ e)); omega
    · have := fpk_len e l; omega
/-- In Peaks' loop: what is left of the list, what has come out. -/
structure PkS (w0 w : World) (l0 : List ByteArray) (e : Nat) (a : Option Addr) (n c : Nat) (v : Value) : Prop where
  ex : ∃ l out, PA w0 a n c l ∧ Fit l ∧ TxR w0.heap.size w v out ∧ out ++ fpk e l = fpk 31 l0 ∧ out.length + e ≤ 31
  bel : Below w0.heap.size w0 w
theorem pa_drop' {w : World} {a : Option Addr} {n c k : Nat} {l : List ByteArray} (h : PA w a n c l) (hk : k ≤ n) (hk0 : 0 < n) : ∃ blk off, a = some ⟨blk, off, none⟩ ∧ PA w (if c = k then some ⟨blk, off, none⟩ else some ⟨blk, off + k, none⟩) (n - k) (c - k) (l.drop k) := by
  obtain ⟨blk, off, rfl, _⟩ := h.at_ hk0
  refine ⟨blk, off, rfl, ?_⟩
  have hcap := h.cap
  have htop := h.top
  by_cases hc : c = k
  · rw [if_pos hc]
    exact ⟨by rw [List.length_drop, h.len], by omega, by omega, fun h0 => by omega⟩
  · rw [if_neg hc]
    exact h.drop hk
set_option maxHeartbeats 1600000 in
set_option maxRecDepth 100000 in
theorem rpeaks_any (a : Option Addr) (n c : Nat) (l : List ByteArray) (w : World) (hP : PA w a n c l) (hF : Fit l) (hn : n < 2147483648) :
    Calls Tryd.prog 17 #[.slice a n c] w (RowIs w (pkL l)) := by
  have hpk : fpk 31 l = pkL l := fpk_pkL 31 l (by rw [hP.len]; exact hn)
  rw [← hpk]
  have hS0 : Box (PkS w w l 31 a n c (.slice none 0 0)) := ⟨⟨⟨l, [], hP, hF, TxR.nil _ _, rfl, by simp⟩, Below.refl _ _⟩⟩
  have hk0 : pw 31 = 1073741824 := by decide
  have hcap0 := hP.cap
  clear hP hF hpk
  go_enter Tryd.func17, Tryd.ntmps17
  go_wp2_with fail
  go_loopw [0, 3, 4] (fun v0 v3 v4 wr => ∃ (a0 : Option Addr) (n0 c0 e k : Nat), v0 = .slice a0 n0 c0 ∧ v4 = .int .i64 (k : Int) ∧ n0 ≤ n ∧ e ≤ 31 ∧ Box (k = pw e) ∧ Box (PkS w wr l e a0 n0 c0 v3)) (fun _ _ v4 _ => (intOf v4).toNat)
  case atStart => exact ⟨a, n, c, 31, 1073741824, rfl, rfl, Nat.le_refl _, Nat.le_refl _, ⟨hk0.symm⟩, hS0⟩
  case round =>
    clear hS0 hk0 hcap0
    obtain ⟨a0, n0, c0, e, k, rfl, rfl, hn0, he, hk, hS⟩ := hrel
    cases e with
    | zero =>
      have hk0 : k = 0 := hk.out
      subst hk0
      obtain ⟨⟨l1, out, _, _, hT, hout, _⟩, hB⟩ := hS.out
      rw [show fpk 0 l1 = [] from rfl, List.append_nil] at hout
      rw [hout] at hT
      replace hT := Box.mk hT
      replace hB := Box.mk hB
      clear hS hk hout
      go_wp2_with fail
      go_ret
      exact ⟨_, rfl, hT.out, hB.out⟩
    | succ e =>
      have hk1 : k = 2 ^ e := by rw [← pw_succ]; exact hk.out
      have hk2 : k / 2 = pw e := by rw [← pw_half, ← hk.out]
      have hkpos : 0 < k := by rw [hk1]; exact Nat.two_pow_pos e
      have hkle : k ≤ 1073741824 := by
        rw [hk1]
        have : 2 ^ e ≤ 2 ^ 30 := Nat.pow_le_pow_right (by omega) (by omega)
        omega
      obtain ⟨q, hq⟩ : ∃ q, k / 2 = q := ⟨_, rfl⟩
      have hqk : (k : Int).tdiv 2 = (q : Int) := by rw [Int.tdiv_eq_ediv_of_nonneg (by omega)]; omega
      have hqlt : q < k := by omega
      have hqB : Box (q = pw e) := ⟨by rw [← hq]; exact hk2⟩
      have hgt : (k : Int) > 0 := by omega
      obtain ⟨⟨l1, out, hP, hF, hT, hout, hol⟩, hB⟩ := hS.out
      have hcap := hP.cap
      have htop := hP.top
      have hlen := hP.len
      rw [fpk_pw, hlen, ← hk.out] at hout
      by_cases hge : k ≤ n0
      · have hgei : (n0 : Int) ≥ (k : Int) := by omega
        rw [if_pos hge] at hout
        obtain ⟨blk, off, rfl, hP2⟩ := pa_drop' hP hge (by omega)
        have hRt := rroot_any k (l1.take k) (some ⟨blk, off, none⟩) c0 wr ((hP.here hB).take hge) (hF.take k)
        obtain ⟨y, hy⟩ : ∃ y, rootL (l1.take k) = y := ⟨_, rfl⟩
        rw [hy] at hRt hout
        obtain ⟨a1, c1, rfl⟩ := hT.shape
        obtain ⟨ol, hol2⟩ : ∃ ol, out.length = ol := ⟨_, rfl⟩
        rw [hol2] at hT hol ⊢
        obtain ⟨ad, had⟩ : ∃ ad : Option Addr, (if c0 = k then some ⟨blk, off, none⟩ else some ⟨blk, off + k, none⟩) = ad := ⟨_, rfl⟩
        rw [had] at hP2
        have hadB := Box.mk had
        have hkc : k ≤ c0 := by omega
        have holB := Box.mk hol2
        replace hP2 := Box.mk hP2
        replace hF := Box.mk (hF.drop k)
        replace hT := Box.mk hT
        replace hB := Box.mk hB
        replace hout := Box.mk hout
        replace hol := Box.mk hol
        clear hS hk hk1 hk2 hy hq hP hlen hol2 had
        go_wp2_with fail
        refine hRt.mono ?_
        rintro r w1 ⟨rfl, hb1⟩
        clear hRt
        have hT1 := Box.mk (hT.out.here hb1)
        have hB1 := Box.mk (mono_bel hB.out hb1 (Nat.le_refl _))
        have hz := Box.mk (parts_new w1 [y] 9)
        clear hT hB hb1
        go_wp2_with (at_builtin; refine wpList_pushT rfl (.tmp 13) (.tmp 18) rfl w.heap.size _ out [y] rfl (hT1.out.here (bel_alloc _ _)) (by have := hB1.out.size; simp; omega) (some ⟨w1.heap.size, 0, none⟩) 1 1 rfl rfl hz.out (by have h1 := hol.out; have h2 := holB.out; omega) ?_)
        rintro v2 w2 hp
        have hbb := hp.bel (mono_bel hB1.out (bel_alloc _ _) (Nat.le_refl _)) (hT1.out.here (bel_alloc _ _))
        have hS2 : Box (PkS w w2 l e ad (n0 - k) (c0 - k) v2) := ⟨⟨⟨_, out ++ [y], hP2.out, hF.out, hp.row, by rw [List.append_assoc]; exact hout.out, by have h1 := hol.out; have h2 := holB.out; rw [List.length_append, List.length_singleton]; omega⟩, hbb⟩⟩
        clear hp hbb hT1 hB1 hz
        go_wp2_with fail
        exact ⟨⟨ad, n0 - k, c0 - k, e, q, by rw [hadB.out], rfl, by omega, by omega, hqB, hS2⟩, by simp [intOf]; omega⟩
      · have hgei : ¬ (n0 : Int) ≥ (k : Int) := by omega
        rw [if_neg hge] at hout
        have hS2 : Box (PkS w wr l e a0 n0 c0 _) := ⟨⟨⟨l1, out, hP, hF, hT, hout, by omega⟩, hB⟩⟩
        clear hS hk hk1 hk2 hq hP hlen hT hF hout hB
        go_wp2_with fail
        exact ⟨⟨a0, n0, c0, e, q, rfl, rfl, by omega, by omega, hqB, hS2⟩, by simp [intOf]; omega⟩
end Go.Proofs.YtakmlbnjgkfaiaaDoor

namespace Go.Proofs.YtakmlbnjgkfaiaaDoor
open Go Go.RowKit

theorem fit_fpk : ∀ (d : Nat) (l : List ByteArray), Fit l → Fit (fpk d l)
  | 0, _, _ => fun x hx => by cases hx
  | d + 1, l, h => by
    rw [fpk]
    split
    · intro x hx
      rcases List.mem_cons.1 hx with rfl | hx
      · exact root_size _ (h.take _)
      · exact fit_fpk d _ (h.drop _) x hx
    · exact fit_fpk d l h
theorem fit_pkL {l : List ByteArray} (h : Fit l) : Fit (pkL l) := by
  rw [← fpk_pkL l.length l Nat.lt_two_pow_self]; exact fit_fpk _ l h
theorem fit_pushH {P : List ByteArray} {h : ByteArray} (hF : Fit P) (hh : h.size ≤ 70000000000000) (n : Nat) : Fit (pushH n P h) := fit_mg hF hh _
theorem SNext.up {w0 w w' : World} {t : TypeId} {g n : Nat} {v : Value} {P : List ByteArray} (h : SNext w t g v n P w') (hb : Below w0.heap.size w0 w) (hg : w0.heap.size ≤ g) (hv : ∀ k, v.ownBlock = some k → w0.heap.size ≤ k) : SNew w0 t g n P w' := by
  obtain ⟨v', h1, h2, h3⟩ := h.out
  refine ⟨v', h1, hg, fun k hk => ?_, hb.trans (h2.below hb.size fun i hi => ?_)⟩
  · rcases h3 k hk with e | e
    · exact hv k e
    · exact Nat.le_trans hb.size e
  · rcases hi with rfl | hi
    · exact hg
    · exact hv i hi
theorem SNew.bel {w0 w : World} {t : TypeId} {g n : Nat} {P : List ByteArray} (h : SNew w0 t g n P w) : Below w0.heap.size w0 w := by
  obtain ⟨_, _, _, _, hb⟩ := h.out
  exact hb
theorem SNew.here {w0 w w' : World} {t : TypeId} {g n : Nat} {P : List ByteArray} (h : SNew w0 t g n P w) (hb : Below w.heap.size w w') : SNew w0 t g n P w' := by
  obtain ⟨v, h1, h2, h3, h4⟩ := h.out
  exact ⟨v, h1.here hb, h2, h3, mono_bel h4 hb (Nat.le_refl _)⟩
theorem SNew.zero (w : World) (t : TypeId) : SNew w t w.heap.size 0 [] (w.alloc (.cells #[.int .i64 0, .slice none 0 0] t)) :=
  ⟨.slice none 0 0, ⟨Pk.Blk.new w [.int .i64 0, .slice none 0 0] t, TxR.nil _ _, pcN_zero.symm⟩, Nat.le_refl _, (fun k hk => by cases hk), bel_alloc _ _⟩
theorem append_new (w0 w : World) (g n : Nat) (P : List ByteArray) (h : ByteArray) (hS : SNew w0 25 g n P w) (hK : KIs w) (hT : TIs w) (hF : Fit P) (hh : h.size ≤ 70000000000000) (hn : n < 9223372036854775807) :
    Calls Tryd.prog 11 #[PtrS g, .string h] w fun e w' => e = .returned (.tuple #[]) ∧ SNew w0 25 g (n + 1) (pushH n P h) w' := by
  obtain ⟨v, h1, h2, h3, h4⟩ := hS.out
  have hl : P.length ≤ 64 := by rw [h1.len]; exact pcN_le 64 n (by omega)
  exact (append_any g n v P h w h1 hK hT hF hh hn hl).mono fun e w' ⟨he, hs⟩ => ⟨he, hs.up h4 h2 h3⟩
theorem rappend_new (w0 w : World) (g n : Nat) (P : List ByteArray) (h : ByteArray) (hS : SNew w0 45 g n P w) (hF : Fit P) (hh : h.size ≤ 70000000000000) (hn : n < 9223372036854775807) :
    Calls Tryd.prog 21 #[PtrS g, .string h] w fun e w' => e = .returned (.tuple #[]) ∧ SNew w0 45 g (n + 1) (pushH n P h) w' := by
  obtain ⟨v, h1, h2, h3, h4⟩ := hS.out
  have hl : P.length ≤ 64 := by rw [h1.len]; exact pcN_le 64 n (by omega)
  exact (rappend_any g n v P h w h1 hF hh hn hl).mono fun e w' ⟨he, hs⟩ => ⟨he, hs.up h4 h2 h3⟩
/-- A span of these leaves' hashes. -/
def SLs (w0 : World) (t : TypeId) (g : Nat) (l : List ByteArray) (w : World) : Prop := SNew w0 t g l.length (pkL l) w
theorem SLs.zero (w : World) (t : TypeId) : SLs w t w.heap.size [] (w.alloc (.cells #[.int .i64 0, .slice none 0 0] t)) := by
  unfold SLs
  rw [pkL_nil]; exact SNew.zero w t
theorem append_ls (w0 w : World) (g : Nat) (l : List ByteArray) (h : ByteArray) (hS : SLs w0 25 g l w) (hK : KIs w) (hT : TIs w) (hF : Fit l) (hh : h.size ≤ 70000000000000) (hn : l.length < 9223372036854775807) :
    Calls Tryd.prog 11 #[PtrS g, .string h] w fun e w' => e = .returned (.tuple #[]) ∧ SLs w0 25 g (l ++ [h]) w' := by
  have := append_new w0 w g l.length (pkL l) h hS hK hT (fit_pkL hF) hh hn
  rw [pkL_snoc] at this
  unfold SLs
  rw [List.length_append, List.length_singleton]
  exact this
theorem sroot_ls (w0 w : World) (g : Nat) (l : List ByteArray) (hS : SLs w0 25 g l w) (hK : KIs w) (hF : Fit l) (hn : l.length < 9223372036854775807) :
    Calls Tryd.prog 13 #[PtrS g] w fun e w' => e = .returned (.string (rootL l)) ∧ Below w.heap.size w w' := by
  obtain ⟨v, h1, _⟩ := hS.out
  have := sroot_any g l.length v (pkL l) w h1 hK (fit_pkL hF) (by omega)
  rw [pkL_root] at this
  exact this
theorem size_ls (w0 w : World) (g : Nat) (l : List ByteArray) (hS : SLs w0 25 g l w) :
    Calls Tryd.prog 12 #[PtrS g] w fun e w' => e = .returned (.int .i64 (l.length : Int)) ∧ w = w' := by
  obtain ⟨v, h1, _⟩ := hS.out
  exact size_any g l.length v (pkL l) w h1
theorem peaks_ls (w0 w : World) (g : Nat) (l : List ByteArray) (hS : SLs w0 25 g l w) (hn : l.length < 9223372036854775807) :
    Calls Tryd.prog 16 #[PtrS g] w (RowIs w (pkL l)) := by
  obtain ⟨v, h1, _⟩ := hS.out
  exact peaks_any g l.length v (pkL l) w h1 (by rw [pkL_length]; exact pcN_le 64 _ (by omega))
theorem SNew.lt {w0 w : World} {t : TypeId} {g n : Nat} {P : List ByteArray} (h : SNew w0 t g n P w) : g < w.heap.size := by
  obtain ⟨v, h1, _⟩ := h.out
  exact h1.lt
theorem TIs.up {w w' : World} (h : TIs w) (hb : Below w.heap.size w w') : TIs w' := h.below hb h.lt
theorem KIs.up {w w' : World} (h : KIs w) (hb : Below w.heap.size w w') : KIs w' := h.below hb h.lt
theorem pk3 (a b c : ByteArray) : pkL [a, b, c] = [nodeH a b, c] := by
  rw [← fpk_pkL 2 [a, b, c] (by simp), fpk, if_pos (by simp)]
  show rootL [a, b] :: fpk 1 [c] = _
  rw [fpk, if_pos (by simp)]
  show rootL [a, b] :: rootL [c] :: fpk 0 [] = _
  rw [root2, rootL_one]
  rfl
set_option maxHeartbeats 1600000 in
set_option maxRecDepth 100000 in
theorem grows_any (w : World) (hK : KIs w) (hT : TIs w) :
    Calls Tryd.prog 8 #[] w fun e w' => e = .returned (.bool true) ∧ Below w.heap.size w w' := by
  have hLf := fun x (hx : (⟨#[x]⟩ : ByteArray).size ≤ 140737488354000) w' => rleaf_any ⟨#[x]⟩ w' hx
  have hA := fun w' => hLf 97 (by show 1 ≤ _; omega) w'
  have hB := fun w' => hLf 98 (by show 1 ≤ _; omega) w'
  have hC := fun w' => hLf 99 (by show 1 ≤ _; omega) w'
  have sA := leafH_size ⟨#[97]⟩
  have sB := leafH_size ⟨#[98]⟩
  have sC := leafH_size ⟨#[99]⟩
  obtain ⟨a, ha⟩ : ∃ a, leafH ⟨#[97]⟩ = a := ⟨_, rfl⟩
  obtain ⟨b, hb⟩ : ∃ a, leafH ⟨#[98]⟩ = a := ⟨_, rfl⟩
  obtain ⟨c, hc⟩ : ∃ a, leafH ⟨#[99]⟩ = a := ⟨_, rfl⟩
  rw [ha] at hA sA
  rw [hb] at hB sB
  rw [hc] at hC sC
  have hF : Fit [a, b, c] := fun x hx => by
    simp only [List.mem_cons, List.not_mem_nil, or_false] at hx
    rcases hx with rfl | rfl | rfl <;> omega
  have hKu := fun w' (hb : Below w.heap.size w w') => hK.below hb hK.lt
  have hTu := fun w' (hb : Below w.heap.size w w') => hT.below hb hT.lt
  have hz := SLs.zero w 25
  obtain ⟨g, hg⟩ : ∃ g, w.heap.size = g := ⟨_, rfl⟩
  rw [hg] at hz
  have hA1 := fun w' (h : SLs w 25 g [] w') => append_ls w w' g [] a h (hKu w' h.bel) (hTu w' h.bel) (hF.take 0) (by omega) (by simp)
  have hA2 := fun w' (h : SLs w 25 g [a] w') => append_ls w w' g [a] b h (hKu w' h.bel) (hTu w' h.bel) (hF.take 1) (by omega) (by simp)
  have hA3 := fun w' (h : SLs w 25 g [a, b] w') => append_ls w w' g [a, b] c h (hKu w' h.bel) (hTu w' h.bel) (hF.take 2) (by omega) (by simp)
  have hPk := fun w' (h : SLs w 25 g [a, b, c] w') => peaks_ls w w' g [a, b, c] h (by simp)
  have hSz := fun w' (h : SLs w 25 g [a, b, c] w') => size_ls w w' g [a, b, c] h
  have hRt := fun w' (h : SLs w 25 g [a, b, c] w') => sroot_ls w w' g [a, b, c] h (hKu w' h.bel) hF (by simp)
  have hDR := fun w' x k (hP : PA w' x 3 k [a, b, c]) => rroot_any 3 [a, b, c] x k w' hP hF
  rw [pk3] at hPk
  obtain ⟨ab, hab⟩ : ∃ x, nodeH a b = x := ⟨_, rfl⟩
  rw [hab] at hPk
  obtain ⟨r, hr⟩ : ∃ r, rootL [a, b, c] = r := ⟨_, rfl⟩
  rw [hr] at hRt hDR
  have hl3 : Box (∀ W : World, PA (W.alloc (.cells #[.string a, .string b, .string c] 9)) (some ⟨W.heap.size, 0, none⟩) 3 3 [a, b, c]) := ⟨fun W => by
    refine ⟨rfl, by omega, by omega, fun _ => ⟨W.heap.size, 0, rfl, by simp, fun i hi => ?_⟩⟩
    have := parts_new W [a, b, c] 9
    obtain ⟨a2, c2, e2, hh⟩ := this.ex
    cases e2
    obtain ⟨b3, o3, e3, h3, h4⟩ := hh (by simp)
    cases e3
    exact h4 i hi⟩
  clear hLf hF ha hb hc hr hab sA sB sC hK hT hKu hTu
  replace hA := Box.mk hA
  replace hB := Box.mk hB
  replace hC := Box.mk hC
  replace hA1 := Box.mk hA1
  replace hA2 := Box.mk hA2
  replace hA3 := Box.mk hA3
  replace hPk := Box.mk hPk
  replace hSz := Box.mk hSz
  replace hRt := Box.mk hRt
  replace hDR := Box.mk hDR
  obtain ⟨w1, hw1⟩ : ∃ W, w.alloc (.cells #[.int .i64 0, .slice none 0 0] 25) = W := ⟨_, rfl⟩
  rw [hw1] at hz
  have h1 := hA.out w1
  unfold PtrS at hA1 hA2 hA3 hPk hSz hRt
  replace hz := Box.mk hz
  go_enter Tryd.func8, Tryd.ntmps8
  go_wp2_with fail
  refine h1.mono ?_
  clear h1
  rintro e w2 ⟨rfl, hb⟩
  replace hz := Box.mk (hz.out.here hb)
  clear hb hw1
  have h1 := hB.out w2
  go_wp2_with fail
  refine h1.mono ?_
  clear h1
  rintro e w3 ⟨rfl, hb⟩
  replace hz := Box.mk (hz.out.here hb)
  clear hb
  have h1 := hC.out w3
  go_wp2_with fail
  refine h1.mono ?_
  clear h1
  rintro e w4 ⟨rfl, hb⟩
  replace hz := Box.mk (hz.out.here hb)
  clear hb
  have h1 := hA1.out w4 hz.out
  go_wp2_with fail
  refine h1.mono ?_
  clear h1
  rintro e w5 ⟨rfl, hz⟩
  have h1 := hA2.out w5 hz
  replace hz := Box.mk hz
  go_wp2_with fail
  refine h1.mono ?_
  clear h1
  rintro e w6 ⟨rfl, hz⟩
  have h1 := hA3.out w6 hz
  replace hz := Box.mk hz
  go_wp2_with fail
  refine h1.mono ?_
  clear h1 hA1 hA2 hA3
  rintro e w7 ⟨rfl, hz⟩
  have h1 := hPk.out w7 hz
  unfold RowIs at h1
  replace hz := Box.mk hz
  go_wp2_with fail
  refine h1.mono ?_
  clear h1 hPk
  rintro e w8 ⟨v8, rfl, hT, hb⟩
  obtain ⟨a8, c8, rfl⟩ := hT.shape
  have hP8 := hT.pa rfl
  obtain ⟨blk, off, rfl, hlt, hcell⟩ := hP8.at_ (by simp)
  replace hz := Box.mk (hz.out.here hb)
  have k1 : Box (∀ w', Below w8.heap.size w8 w' → w'.cell? ⟨blk, off + 1, none⟩ = some (.string c)) := ⟨fun w' hb => (hb.cell (p := ⟨blk, off + 1, none⟩) hlt).trans (hcell 1 (by simp))⟩
  have h1 := hSz.out w8 hz.out
  have q1 := k1.out w8 (Below.refl _ _)
  simp only [List.length_cons, List.length_nil, Nat.zero_add, Nat.reduceAdd] at h1 ⊢
  clear hT hb hP8 hcell
  go_wp2_with fail
  refine h1.mono ?_
  clear h1 hSz
  rintro e w9 ⟨rfl, rfl⟩
  have h1 := hRt.out w8 hz.out
  go_wp2_with fail
  refine h1.mono ?_
  clear h1 hRt q1
  rintro e w10 ⟨rfl, hb⟩
  replace hz := Box.mk (hz.out.here hb)
  have h1 := hDR.out _ _ _ (hl3.out w10)
  have hb2 := Box.mk (mono_bel hz.out.bel (bel_alloc w10 (.cells #[.string a, .string b, .string c] 9)) (Nat.le_refl _))
  clear hb hl3 hDR hz k1
  go_wp2_with fail
  refine h1.mono ?_
  clear h1
  rintro e w11 ⟨rfl, hb⟩
  have hfin := Box.mk (mono_bel hb2.out hb (Nat.le_refl _))
  clear hb hb2
  go_wp2_with fail
  go_ret
  exact ⟨rfl, hfin.out⟩
end Go.Proofs.YtakmlbnjgkfaiaaDoor
