/- Walk of the law FlashCopies. -/
import Derived.Test.YtcccokdbgmejdaaFcC
namespace Go.Proofs.Ytcccokdbgmejdaa
open Go.RowKit

theorem D9.run {c : Nat} {S : LSt} (h : D9 c S.d) : ∀ (os : List OpD), (∀ o ∈ os, o.ok) → D9 (c + os.length) (runO S os).d := by
  intro os
  induction os generalizing c S with
  | nil => exact fun _ => h
  | cons o os ih =>
    intro ho
    have := ih (S := S.go o) (h.does o (ho o (by simp))) (fun x hx => ho x (by simp [hx]))
    rw [runO_cons, List.length_cons, show c + (os.length + 1) = c + 1 + os.length by omega]
    exact this
theorem OpsL.oks {B : Nat} {w : World} {a : Option Addr} {os : List OpD} (h : OpsL B w a os) : ∀ o ∈ os, o.ok := fun o ho => by
  obtain ⟨i, hi, rfl⟩ := List.getElem_of_mem ho
  obtain ⟨_, _, _, _, _, hc⟩ := h.out (by omega)
  obtain ⟨_, _, _, _, _, _, hok, _⟩ := hc i hi
  exact hok
theorem run_step (S : LSt) (os : List OpD) (i : Nat) (h : i < os.length) : runO S (os.take (i + 1)) = (runO S (os.take i)).go (os[i]) := by
  rw [List.take_succ_eq_append_getElem h, runO_app]; rfl
theorem DV.wider {B C : Nat} {X : Nat → Prop} {w : World} {bd : Nat} {D : Dev} (h : DV B X w bd D) (hC : C ≤ B) : DV C X w bd D := by
  obtain ⟨F, hF, h1⟩ := h.out
  exact ⟨⟨F, hF, fun k hk => ⟨by have := (h1 k hk).1; omega, (h1 k hk).2⟩⟩, h.x, by have := h.b; omega⟩
theorem Pair.start {B : Nat} {w w' : World} {bd bc : Nat} {D : Dev} (h : DV B (fun _ => False) w bd D) (hC : DAt w' bc (fun k => w.heap.size ≤ k ∧ k < w'.heap.size) D) (hB : Below w.heap.size w w') : Pair B (fun _ => False) w' bd bc D D := by
  obtain ⟨F, hF, h1⟩ := h.out
  have hb := h.b
  exact ⟨⟨F, _, hF.below hB, hC, h1, fun k hk => ⟨by omega, fun h => h⟩, fun k hk hc => by have := hF.lt k hk; omega⟩, fun _ h => h.elim, Nat.le_trans h.b hB.size⟩
theorem four {B Bx By : Nat} {w w2 w4 : World} {bd bc bx bz : Nat} {D C : Dev} (h : Pair B (fun _ => False) w bd bc D C) (hx : DV Bx (fun _ => False) w2 bx D) (hBx : w.heap.size ≤ Bx) (hb : Below w.heap.size w w2)
    (hy : DV By (fun _ => False) w4 bz C) (hBy : w2.heap.size ≤ By) (hb2 : Below w2.heap.size w2 w4) :
    ∃ X, Pair B X w4 bd bx D D ∧ ∀ w', Others B X w4 w' → Pair B (fun _ => False) w' bc bz C C := by
  obtain ⟨Fd, Fc, h1, h2, h3, h4, h5⟩ := h.out
  obtain ⟨Fx, hFx, hx1⟩ := hx.out
  obtain ⟨Fy, hFy, hy1⟩ := hy.out
  have hw := h.b
  have hs1 := hb.size
  have hs2 := hb2.size
  have hbb : Below w.heap.size w w4 := hb.trans (hb2.mono hs1)
  refine ⟨fun k => Fc k ∨ Fy k, ⟨⟨Fd, Fx, h1.below hbb, hFx.below hb2, fun k hk => ⟨(h3 k hk).1, fun hk2 => ?_⟩, fun k hk => ⟨by have := (hx1 k hk).1; omega, fun hk2 => ?_⟩, fun k hk hk2 => ?_⟩, fun k hk => ?_, by omega⟩, fun w' ho => ⟨⟨Fc, Fy, (h2.below hbb).chg ho (fun k hk hn => hn.2 (.inl hk)), hFy.chg ho (fun k hk hn => hn.2 (.inr hk)), h4, fun k hk => ⟨by have := (hy1 k hk).1; omega, fun h => h⟩, fun k hk hk2 => ?_⟩, fun _ h => h.elim, ?_⟩⟩
  · rcases hk2 with hk2 | hk2
    · exact h5 k hk hk2
    · have := h1.lt k hk; have := (hy1 k hk2).1; omega
  · rcases hk2 with hk2 | hk2
    · have := h2.lt k hk2; have := (hx1 k hk).1; omega
    · have := hFx.lt k hk; have := (hy1 k hk2).1; omega
  · have := h1.lt k hk; have := (hx1 k hk2).1; omega
  · rcases hk with hk | hk
    · have := h2.lt k hk; omega
    · exact hFy.lt k hk
  · have := h2.lt k hk; have := (hy1 k hk2).1; omega
  · have := ho.size; omega
/-- In the law's loop: d did p of its own calls, c did q. -/
structure FC (w0 : World) (bd bc : Nat) (S : LSt) (ms ks : List OpD) (p q : Nat) (w : World) : Prop where
  p : Pair w0.heap.size (fun _ => False) w bd bc (runO S (ms.take p)).d (runO S (ks.take q)).d
  k : Below w0.heap.size w0 w
theorem FC.symm {w0 w : World} {bd bc : Nat} {S : LSt} {ms ks : List OpD} {p q : Nat} (h : FC w0 bd bc S ms ks p q w) : FC w0 bc bd S ks ms q p w := ⟨h.p.symm, h.k⟩
theorem FC.keep {w0 w w' : World} {bd bc : Nat} {S : LSt} {ms ks : List OpD} {p q : Nat} (h : FC w0 bd bc S ms ks p q w) (hb : Below w.heap.size w w') : FC w0 bd bc S ms ks p q w' :=
  ⟨h.p.keep hb _ fun _ h => h.elim, h.k.trans (hb.mono h.k.size)⟩
theorem FC.does {w0 w : World} {bd bc : Nat} {S : LSt} {ms ks : List OpD} {i q : Nat} (h : FC w0 bd bc S ms ks i q w) (hS : D9 100 S.d) (hm : ms.length ≤ 100) (hok : ∀ o ∈ ms, o.ok) (hi : i < ms.length) (va : Option Addr) (vc : Nat) (hI : Ints w0 (fun k => k < w0.heap.size) (.slice va ms[i].f.length vc) ms[i].f) :
    Calls Try.prog 24 #[.pointer (some ⟨bd, 0, none⟩), .agg #[.int .u8 (ms[i].k.toNat : Int), .int .i64 ms[i].n, .string ms[i].s, .slice va ms[i].f.length vc]] w fun e w' => e = .returned (.tuple #[.string (runO S (ms.take (i + 1))).t, .int .i64 (runO S (ms.take (i + 1))).e]) ∧ Box (FC w0 bd bc S ms ks (i + 1) q w') := by
  have h9 := hS.run (ms.take i) (fun o ho => hok o (List.mem_of_mem_take ho))
  have hlen : (ms.take i).length ≤ 100 := by rw [List.length_take]; omega
  refine (h.p.does _ ms[i] va vc (h9.wide (show _ ≤ 1000 by omega)) (Nat.le_refl _) (hok _ (List.getElem_mem hi)) (hI.chg (Chg.of_below h.k) (fun k hk _ => by omega))).mono fun e w' ⟨a, b, c⟩ => ⟨?_, ⟨?_⟩⟩
  · rw [a, run_step S ms i hi]; rfl
  · refine ⟨?_, h.k.trans (c.out.below h.p.b)⟩
    rw [run_step S ms i hi]
    exact b.out
theorem FC.skip {w0 w : World} {bd bc : Nat} {S : LSt} {ms ks : List OpD} {i q : Nat} (h : FC w0 bd bc S ms ks i q w) (hi : ms.length ≤ i) : FC w0 bd bc S ms ks (i + 1) q w := by
  have e : ms.take (i + 1) = ms.take i := by rw [List.take_of_length_le hi, List.take_of_length_le (by omega)]
  exact ⟨by rw [e]; exact h.p, h.k⟩
theorem FC.all {w0 w : World} {bd bc : Nat} {S : LSt} {ms ks : List OpD} {i : Nat} (h : FC w0 bd bc S ms ks i i w) (h1 : ms.length ≤ i) (h2 : ks.length ≤ i) : Pair w0.heap.size (fun _ => False) w bd bc (runO S ms).d (runO S ks).d ∧ Below w0.heap.size w0 w := by
  have := h.p
  rw [List.take_of_length_le h1, List.take_of_length_le h2] at this
  exact ⟨this, h.k⟩
/-- lived, of a slice of two lists that was just made. -/
theorem lived_two (w0 w wn : World) (b0 b1 : Option Addr) (c0 c1 : Nat) (os ms : List OpD) (ho : OpsL w0.heap.size w0 b0 os) (hm : OpsL w0.heap.size w0 b1 ms) (hk : Below w0.heap.size w0 w) (hlo : os.length ≤ 100) (hlm : ms.length ≤ 100)
    (hwn : w.alloc (.cells #[.slice b0 os.length c0, .slice b1 ms.length c1] 22) = wn) :
    Calls Try.prog 23 #[.slice (some ⟨w.heap.size, 0, none⟩) 2 2] wn fun e w' => Lived wn (runO (runO LSt.new os) ms) e w' ∧ Box (Below w.heap.size w w') := by
  have hbn : Below w.heap.size w wn := hwn ▸ (Below.refl _ _).alloc (Nat.le_refl _) _
  have hs := hbn.size
  have hks := hk.size
  have hk0 : Below w0.heap.size w0 wn := hk.trans (hbn.mono hks)
  refine (lived_any wn w.heap.size [(b0, c0, os), (b1, c1, ms)] _ ⟨?_, fun r hr => ?_⟩ ?_ (fun r hr => ?_) (by simp) ?_).mono fun e w' h => ⟨h, ?_⟩
  · rw [← hwn]; exact Blk.new w _ _
  · rcases (show r = (b0, c0, os) ∨ r = (b1, c1, ms) by simpa using hr) with rfl | rfl
    · exact (ho.keep hk0).wide (by omega)
    · exact (hm.keep hk0).wide (by omega)
  · rw [flatO_cons, flatO_cons]
    simp [flatO]; omega
  · rcases (show r = (b0, c0, os) ∨ r = (b1, c1, ms) by simpa using hr) with rfl | rfl
    · simp only; omega
    · simp only; omega
  · rw [flatO_cons, flatO_cons, runO_app]
    simp [flatO]
  · obtain ⟨_, _, _, _, h4⟩ := h
    exact ⟨hbn.trans (h4.out.mono hs)⟩
theorem lived_one (w0 w wn : World) (b0 : Option Addr) (c0 : Nat) (os : List OpD) (ho : OpsL w0.heap.size w0 b0 os) (hk : Below w0.heap.size w0 w) (hlo : os.length ≤ 100)
    (hwn : w.alloc (.cells #[.slice b0 os.length c0] 22) = wn) :
    Calls Try.prog 23 #[.slice (some ⟨w.heap.size, 0, none⟩) 1 1] wn fun e w' => Lived wn (runO LSt.new os) e w' ∧ Box (Below w.heap.size w w') := by
  have hbn : Below w.heap.size w wn := hwn ▸ (Below.refl _ _).alloc (Nat.le_refl _) _
  have hs := hbn.size
  have hks := hk.size
  have hk0 : Below w0.heap.size w0 wn := hk.trans (hbn.mono hks)
  refine (lived_any wn w.heap.size [(b0, c0, os)] _ ⟨?_, fun r hr => ?_⟩ ?_ (fun r hr => ?_) (by simp) ?_).mono fun e w' h => ⟨h, ?_⟩
  · rw [← hwn]; exact Blk.new w _ _
  · obtain rfl : r = (b0, c0, os) := by simpa using hr
    exact (ho.keep hk0).wide (by omega)
  · rw [flatO_cons]
    simp [flatO]; omega
  · obtain rfl : r = (b0, c0, os) := by simpa using hr
    simp only; omega
  · rw [flatO_cons]
    simp [flatO]
  · obtain ⟨_, _, _, _, h4⟩ := h
    exact ⟨hbn.trans (h4.out.mono hs)⟩
theorem idxO_0 (x y : Value) (w : World) : (Instr.index 55 (.agg #[x, y]) (.int .i64 0)).run Try.prog w = .ok x w := by
  have h : Try.prog.underlying 55 = some (.array 2 22) := by kernel_rfl
  simp [Instr.index, run_underlying h, asIntOf, go_sem]
theorem idxO_1 (x y : Value) (w : World) : (Instr.index 55 (.agg #[x, y]) (.int .i64 1)).run Try.prog w = .ok y w := by
  have h : Try.prog.underlying 55 = some (.array 2 22) := by kernel_rfl
  simp [Instr.index, run_underlying h, asIntOf, go_sem]
theorem idxD_0 (x y : Value) (w : World) : (Instr.index 57 (.agg #[x, y]) (.int .i64 0)).run Try.prog w = .ok x w := by
  have h : Try.prog.underlying 57 = some (.array 2 24) := by kernel_rfl
  simp [Instr.index, run_underlying h, asIntOf, go_sem]
theorem idxD_1 (x y : Value) (w : World) : (Instr.index 57 (.agg #[x, y]) (.int .i64 1)).run Try.prog w = .ok y w := by
  have h : Try.prog.underlying 57 = some (.array 2 24) := by kernel_rfl
  simp [Instr.index, run_underlying h, asIntOf, go_sem]
theorem below_drew (B : Nat) (w : World) : Below B w w.drew := ⟨rfl, rfl, rfl, Nat.le_refl _, fun _ _ => rfl⟩
attribute [local go_sem] idxO_0 idxO_1 idxD_0 idxD_1
set_option linter.unusedSimpArgs false in
set_option maxHeartbeats 6400000 in
set_option maxRecDepth 100000 in
theorem copies_law (a0 a1 a2 : Option Addr) (L0 C0 L1 C1 L2 C2 : Nat) (w : World) (h0 : OpsAt w a0 L0) (h1 : OpsAt w a1 L1) (h2 : OpsAt w a2 L2) (hC0 : L0 ≤ C0 ∧ C0 ≤ maxLen) (hC1 : L1 ≤ C1 ∧ C1 ≤ maxLen) (hC2 : L2 ≤ C2 ∧ C2 ≤ maxLen) :
    Calls Try.prog 7 #[.slice a0 L0 C0, .slice a1 L1 C1, .slice a2 L2 C2] w fun e w' => e = .returned (.bool true) ∧ Below w.heap.size w w' := by
  unfold maxLen at hC0 hC1 hC2
  obtain ⟨o0, l0, h0⟩ := h0.list
  obtain ⟨o1, l1, h1⟩ := h1.list
  obtain ⟨o2, l2, h2⟩ := h2.list
  replace h0 := Box.mk (h0.take 40)
  replace h1 := Box.mk (h1.take 20)
  replace h2 := Box.mk (h2.take 20)
  obtain ⟨M0, hM0⟩ : ∃ M, min L0 40 = M := ⟨_, rfl⟩
  obtain ⟨M1, hM1⟩ : ∃ M, min L1 20 = M := ⟨_, rfl⟩
  obtain ⟨M2, hM2⟩ : ∃ M, min L2 20 = M := ⟨_, rfl⟩
  have z0 : Box ((o0.take 40).length = M0) := ⟨by rw [List.length_take]; omega⟩
  have z1 : Box ((o1.take 20).length = M1) := ⟨by rw [List.length_take]; omega⟩
  have z2 : Box ((o2.take 20).length = M2) := ⟨by rw [List.length_take]; omega⟩
  generalize o0.take 40 = os at h0 z0
  generalize o1.take 20 = ms at h1 z1
  generalize o2.take 20 = ks at h2 z2
  clear l0 l1 l2
  have hm0 : M0 ≤ L0 ∧ M0 ≤ 40 := by omega
  have hm1 : M1 ≤ L1 ∧ M1 ≤ 20 := by omega
  have hm2 : M2 ≤ L2 ∧ M2 ≤ 20 := by omega
  have i0 : Box ((if (40 : Int) < (L0 : Int) then 40 else (L0 : Int)) = (M0 : Int)) := ⟨by split <;> omega⟩
  have i1 : Box ((if (20 : Int) < (L1 : Int) then 20 else (L1 : Int)) = (M1 : Int)) := ⟨by split <;> omega⟩
  have i2 : Box ((if (20 : Int) < (L2 : Int) then 20 else (L2 : Int)) = (M2 : Int)) := ⟨by split <;> omega⟩
  clear hM0 hM1 hM2
  have hK := keeps_any w
  go_enter Try.func7, Try.ntmps7
  go_wp2_with fail
  refine hK.mono ?_
  rintro e w1 ⟨rfl, hb1⟩
  replace hb1 := Box.mk hb1
  clear hK
  go_wp2_with fail
  refine wp_region_quiet_lit (by kernel_rfl) (by kernel_rfl) ?_
  repeat (go_big_quiet_step (first | exact fun _ => rfl | rfl))
  refine wpQuiet_nil ?_
  rintro w' ⟨r, rfl⟩
  rw [i0.out, i1.out, i2.out, Int.toNat_natCast, Int.toNat_natCast, Int.toNat_natCast]
  have hb2 : Box (Below w.heap.size w (w1.drewN r)) := ⟨hb1.out.trans (below_drewN _ w1 r)⟩
  generalize w1.drewN r = w2 at hb2 ⊢
  clear i0 i1 i2 hb1
  obtain ⟨S0, hS0⟩ : ∃ S0, runO LSt.new os = S0 := ⟨_, rfl⟩
  have hL1 := lived_one w w2 _ a0 C0 os h0.out hb2.out (by have := z0.out; omega) rfl
  rw [z0.out, hS0] at hL1
  have hS9 : Box (D9 100 S0.d) := ⟨by rw [← hS0]; exact (D9.run (S := LSt.new) D9.new os h0.out.oks).wide (by have := z0.out; omega)⟩
  replace hL1 := Box.mk hL1
  replace hS0 := Box.mk hS0
  go_wp2_with fail
  refine hL1.out.mono ?_
  rintro e w3 ⟨⟨bd, rfl, hD3, _, _⟩, hB3⟩
  have hd3 : DV w.heap.size (fun _ => False) w3 bd S0.d := hD3.out.wider (by have := hb2.out.size; simp; omega)
  have hb3 := Box.mk (hb2.out.trans (hB3.out.mono hb2.out.size))
  have hCp : Box (Calls Try.prog 17 #[.pointer (some ⟨bd, 0, none⟩)] w3 (CopyD w3 S0.d)) := ⟨by
    obtain ⟨F, hF, _⟩ := hd3.out
    exact copy_any bd F S0.d w3 hF (by have := hS9.out.w; omega)⟩
  replace hd3 := Box.mk hd3
  clear hL1 hD3 hB3 hb2
  go_wp2_with fail
  refine hCp.out.mono ?_
  rintro e w4 ⟨bc, rfl, hC4, hB4⟩
  have hF4 : Box (FC w bd bc S0 ms ks 0 0 w4) := ⟨Pair.start hd3.out hC4 hB4, hb3.out.trans (hB4.mono hb3.out.size)⟩
  clear hCp hC4 hB4 hd3 hb3
  have hSe : Box (runO LSt.new os = S0) := hS0
  go_wp2_with fail
  go_loopw [57] (fun s57 wr => ∃ i : Nat, i ≤ 20 ∧ s57 = .int .i64 i ∧ Box (FC w bd bc S0 ms ks i i wr)) (fun s57 _ => 20 - (intOf s57).toNat)
  case atStart => exact ⟨0, by omega, rfl, hF4⟩
  case round =>
    clear hF4
    obtain ⟨i, hi, rfl, hF⟩ := hrel
    by_cases hlt : i < 20
    · go_wp2_with fail
      rw [show decide ((i : Int) < 20) = true from decide_eq_true (by omega)]
      go_loopw [63] (fun s63 wr => ∃ k : Nat, k ≤ 2 ∧ s63 = .int .i64 k ∧ Box (FC w bd bc S0 ms ks (if 1 ≤ k then i + 1 else i) (if 2 ≤ k then i + 1 else i) wr)) (fun s63 _ => 2 - (intOf s63).toNat)
      case atStart => exact ⟨0, by omega, rfl, hF⟩
      case round =>
        clear hF
        skip
        obtain ⟨k, hk, rfl, hF⟩ := hrel
        rcases (show k = 0 ∨ k = 1 ∨ k = 2 by omega) with rfl | rfl | rfl
        · have hz := z1.out
          replace hF : Box (FC w bd bc S0 ms ks i i wr) := hF
          by_cases hlt2 : i < M1
          · have hiM : i < ms.length := by omega
            have htl : (ms.take (i + 1)).length = i + 1 := by rw [List.length_take]; omega
            obtain ⟨wn, hwn⟩ : ∃ wn, wr.alloc (.cells #[.slice a0 M0 C0, .slice a1 (i + 1) C1] 22) = wn := ⟨_, rfl⟩
            have hLv := lived_two w wr wn a0 a1 C0 C1 os (ms.take (i + 1)) h0.out (h1.out.take (i + 1)) hF.out.k (by have := z0.out; omega) (by omega) (by rw [htl, z0.out]; exact hwn)
            rw [hSe.out, run_step S0 ms i hiM, ← run_step S0 ms i hiM] at hLv
            obtain ⟨bo, hbo⟩ : ∃ bo, wr.heap.size = bo := ⟨_, rfl⟩
            rw [hbo] at hLv
            obtain ⟨cb, co, rfl, hcb, hcw, hcs⟩ := h1.out.out (by omega)
            obtain ⟨va, vc, d0, d1, d2, d3, hok, hIv⟩ := hcs i hiM
            replace hLv := Box.mk hLv
            replace hIv := Box.mk hIv
            obtain ⟨Sn, hSn⟩ : ∃ Sn, runO S0 (ms.take (i + 1)) = Sn := ⟨_, rfl⟩
            rw [hSn] at hLv
            replace hSn := Box.mk hSn
            replace d0 := Box.mk d0
            replace d1 := Box.mk d1
            replace d2 := Box.mk d2
            replace d3 := Box.mk d3
            clear hcs hok
            go_wp2_with fail
            refine hLv.out.mono ?_
            rintro e w6 ⟨⟨bt, rfl, hDt, _, _⟩, hB6⟩
            have hF6 := hF.out.keep (hbo ▸ hB6.out)
            have hFd : FC w bd bc S0 ms ks i i w6.drew := hF6.keep (below_drew _ w6)
            have hDo' := hFd.does hS9.out (by omega) (fun o ho => h1.out.oks o ho) hiM va vc hIv.out
            rw [hSn.out] at hDo'
            have e0 := d0.out
            have e1 := d1.out
            have e2 := d2.out
            have e3 := d3.out
            rw [← hF6.k.cell (p := ⟨cb, _, none⟩) hcb] at e0 e1 e2 e3
            clear hLv hDt hB6 hF d0 d1 d2 d3
            clear hF6 hFd
            generalize ms[i] = o at *
            generalize hvl : o.f.length = vl at *
            go_wp2_with fail
            refine region_go (C := fun _ => True) rfl ?_
            refine go_calms [0, 1] 13 rfl (by kernel_rfl) (by kernel_rfl) (by kernel_rfl) True.intro ?_
            simp [nth]
            repeat (go_big_quiet_step (first | exact fun _ => rfl | rfl))
            refine wpQuiet_nil ?_
            refine go_calm 2 (by kernel_rfl) rfl (by kernel_rfl) (by kernel_rfl) True.intro (yields (v := .agg #[.pointer (some ⟨bd, 0, none⟩), .pointer (some ⟨bc, 0, none⟩)]) rfl (fun w' hw' => by go_simp)) ?_
            simp only [Act.put, List.setIfInBounds_toArray, List.set_cons_succ, List.set_cons_zero]
            refine go_calms [3] 11 rfl (by kernel_rfl) (by kernel_rfl) (by kernel_rfl) True.intro ?_
            simp [nth]
            repeat (go_big_quiet_step (first | exact fun _ => rfl | rfl))
            refine wpQuiet_nil ?_
            refine go_calm 4 (by kernel_rfl) rfl (by kernel_rfl) (by kernel_rfl) True.intro (yields (v := .pointer (some ⟨bd, 0, none⟩)) rfl (fun w' hw' => by go_simp)) ?_
            simp only [Act.put, List.setIfInBounds_toArray, List.set_cons_succ, List.set_cons_zero]
            refine go_calms [5, 6, 7] 7 rfl (by kernel_rfl) (by kernel_rfl) (by kernel_rfl) True.intro ?_
            simp [nth]
            repeat (go_big_quiet_step (first | exact fun _ => rfl | rfl))
            refine wpQuiet_nil ?_
            replace hDo : Calls Try.prog 24 _ w6.drew _ := hDo'
            replace e0 : w6.drew.cell? _ = _ := e0
            replace e1 : w6.drew.cell? _ = _ := e1
            replace e2 : w6.drew.cell? _ = _ := e2
            replace e3 : w6.drew.cell? _ = _ := e3
            replace hDo := Box.mk hDo
            generalize w6.drew = wd at hDo e0 e1 e2 e3 ⊢
            refine go_forced 8 (by kernel_rfl) (goOp_wp 8 rfl rfl (fun K hK => ?_))
            go_simp
            refine hK _ _ True.intro ?_
            clear hK K
            refine go_forced 9 (by kernel_rfl) (goOp_wp 9 rfl rfl (fun K hK => ?_))
            go_simp
            refine hDo.out.mono ?_
            rintro e w7 ⟨rfl, hF7⟩
            refine hK _ _ True.intro ?_
            clear hK K
            refine go_calms [10] 4 rfl (by kernel_rfl) (by kernel_rfl) (by kernel_rfl) True.intro ?_
            simp [nth]
            repeat (go_big_quiet_step (first | exact fun _ => rfl | rfl))
            refine wpQuiet_nil ?_
            refine go_calm 11 (by kernel_rfl) rfl (by kernel_rfl) (by kernel_rfl) True.intro (yields (v := .string Sn.t) rfl (fun w' hw' => by go_simp)) ?_
            simp only [Act.put, List.setIfInBounds_toArray, List.set_cons_succ, List.set_cons_zero]
            refine go_calm 12 (by kernel_rfl) rfl (by kernel_rfl) (by kernel_rfl) True.intro (yields (v := .int .i64 Sn.e) rfl (fun w' hw' => by go_simp)) ?_
            simp only [Act.put, List.setIfInBounds_toArray, List.set_cons_succ, List.set_cons_zero]
            refine go_calms [13, 14] 0 rfl (by kernel_rfl) (by kernel_rfl) (by kernel_rfl) True.intro ?_
            simp [nth]
            repeat (go_big_quiet_step (first | exact fun _ => rfl | rfl))
            refine wpQuiet_nil ?_
            refine go_done (by kernel_rfl) ?_
            clear hDo e0 e1 e2 e3 hIv
            have hF8 : Box (FC w bd bc S0 ms ks (i + 1) i w7) := ⟨hF7.out⟩
            clear hF7
            go_wp2_with fail
            exact ⟨⟨1, by omega, by go_num, hF8⟩, by simp [intOf]⟩
          · have hF8 : Box (FC w bd bc S0 ms ks (i + 1) i wr) := ⟨(hF.out.skip (by omega))⟩
            clear hF
            go_wp2_with fail
            exact ⟨⟨1, by omega, by go_num, hF8⟩, by simp [intOf]⟩
        · have hz := z2.out
          replace hF : Box (FC w bd bc S0 ms ks (i + 1) i wr) := hF
          by_cases hlt2 : i < M2
          · have hiM : i < ks.length := by omega
            have htl : (ks.take (i + 1)).length = i + 1 := by rw [List.length_take]; omega
            obtain ⟨wn, hwn⟩ : ∃ wn, wr.alloc (.cells #[.slice a0 M0 C0, .slice a2 (i + 1) C2] 22) = wn := ⟨_, rfl⟩
            have hLv := lived_two w wr wn a0 a2 C0 C2 os (ks.take (i + 1)) h0.out (h2.out.take (i + 1)) hF.out.k (by have := z0.out; omega) (by omega) (by rw [htl, z0.out]; exact hwn)
            rw [hSe.out, run_step S0 ks i hiM, ← run_step S0 ks i hiM] at hLv
            obtain ⟨bo, hbo⟩ : ∃ bo, wr.heap.size = bo := ⟨_, rfl⟩
            rw [hbo] at hLv
            obtain ⟨cb, co, rfl, hcb, hcw, hcs⟩ := h2.out.out (by omega)
            obtain ⟨va, vc, d0, d1, d2, d3, hok, hIv⟩ := hcs i hiM
            replace hLv := Box.mk hLv
            replace hIv := Box.mk hIv
            obtain ⟨Sn, hSn⟩ : ∃ Sn, runO S0 (ks.take (i + 1)) = Sn := ⟨_, rfl⟩
            rw [hSn] at hLv
            replace hSn := Box.mk hSn
            replace d0 := Box.mk d0
            replace d1 := Box.mk d1
            replace d2 := Box.mk d2
            replace d3 := Box.mk d3
            clear hcs hok
            go_wp2_with fail
            refine hLv.out.mono ?_
            rintro e w6 ⟨⟨bt, rfl, hDt, _, _⟩, hB6⟩
            have hF6 := hF.out.keep (hbo ▸ hB6.out)
            have hFd : FC w bd bc S0 ms ks (i + 1) i w6.drew := hF6.keep (below_drew _ w6)
            have hDo' := hFd.symm.does hS9.out (by omega) (fun o ho => h2.out.oks o ho) hiM va vc hIv.out
            rw [hSn.out] at hDo'
            have e0 := d0.out
            have e1 := d1.out
            have e2 := d2.out
            have e3 := d3.out
            rw [← hF6.k.cell (p := ⟨cb, _, none⟩) hcb] at e0 e1 e2 e3
            clear hLv hDt hB6 hF d0 d1 d2 d3
            clear hF6 hFd
            generalize ks[i] = o at *
            generalize hvl : o.f.length = vl at *
            go_wp2_with fail
            refine region_go (C := fun _ => True) rfl ?_
            refine go_calms [0, 1] 13 rfl (by kernel_rfl) (by kernel_rfl) (by kernel_rfl) True.intro ?_
            simp [nth]
            repeat (go_big_quiet_step (first | exact fun _ => rfl | rfl))
            refine wpQuiet_nil ?_
            refine go_calm 2 (by kernel_rfl) rfl (by kernel_rfl) (by kernel_rfl) True.intro (yields (v := .agg #[.pointer (some ⟨bd, 0, none⟩), .pointer (some ⟨bc, 0, none⟩)]) rfl (fun w' hw' => by go_simp)) ?_
            simp only [Act.put, List.setIfInBounds_toArray, List.set_cons_succ, List.set_cons_zero]
            refine go_calms [3] 11 rfl (by kernel_rfl) (by kernel_rfl) (by kernel_rfl) True.intro ?_
            simp [nth]
            repeat (go_big_quiet_step (first | exact fun _ => rfl | rfl))
            refine wpQuiet_nil ?_
            refine go_calm 4 (by kernel_rfl) rfl (by kernel_rfl) (by kernel_rfl) True.intro (yields (v := .pointer (some ⟨bc, 0, none⟩)) rfl (fun w' hw' => by go_simp)) ?_
            simp only [Act.put, List.setIfInBounds_toArray, List.set_cons_succ, List.set_cons_zero]
            refine go_calms [5, 6, 7] 7 rfl (by kernel_rfl) (by kernel_rfl) (by kernel_rfl) True.intro ?_
            simp [nth]
            repeat (go_big_quiet_step (first | exact fun _ => rfl | rfl))
            refine wpQuiet_nil ?_
            replace hDo : Calls Try.prog 24 _ w6.drew _ := hDo'
            replace e0 : w6.drew.cell? _ = _ := e0
            replace e1 : w6.drew.cell? _ = _ := e1
            replace e2 : w6.drew.cell? _ = _ := e2
            replace e3 : w6.drew.cell? _ = _ := e3
            replace hDo := Box.mk hDo
            generalize w6.drew = wd at hDo e0 e1 e2 e3 ⊢
            refine go_forced 8 (by kernel_rfl) (goOp_wp 8 rfl rfl (fun K hK => ?_))
            go_simp
            refine hK _ _ True.intro ?_
            clear hK K
            refine go_forced 9 (by kernel_rfl) (goOp_wp 9 rfl rfl (fun K hK => ?_))
            go_simp
            refine hDo.out.mono ?_
            rintro e w7 ⟨rfl, hF7⟩
            refine hK _ _ True.intro ?_
            clear hK K
            refine go_calms [10] 4 rfl (by kernel_rfl) (by kernel_rfl) (by kernel_rfl) True.intro ?_
            simp [nth]
            repeat (go_big_quiet_step (first | exact fun _ => rfl | rfl))
            refine wpQuiet_nil ?_
            refine go_calm 11 (by kernel_rfl) rfl (by kernel_rfl) (by kernel_rfl) True.intro (yields (v := .string Sn.t) rfl (fun w' hw' => by go_simp)) ?_
            simp only [Act.put, List.setIfInBounds_toArray, List.set_cons_succ, List.set_cons_zero]
            refine go_calm 12 (by kernel_rfl) rfl (by kernel_rfl) (by kernel_rfl) True.intro (yields (v := .int .i64 Sn.e) rfl (fun w' hw' => by go_simp)) ?_
            simp only [Act.put, List.setIfInBounds_toArray, List.set_cons_succ, List.set_cons_zero]
            refine go_calms [13, 14] 0 rfl (by kernel_rfl) (by kernel_rfl) (by kernel_rfl) True.intro ?_
            simp [nth]
            repeat (go_big_quiet_step (first | exact fun _ => rfl | rfl))
            refine wpQuiet_nil ?_
            refine go_done (by kernel_rfl) ?_
            clear hDo e0 e1 e2 e3 hIv
            have hF8 : Box (FC w bd bc S0 ms ks (i + 1) (i + 1) w7) := ⟨hF7.out.symm⟩
            clear hF7
            go_wp2_with fail
            exact ⟨⟨2, by omega, by go_num, hF8⟩, by simp [intOf]⟩
          · have hF8 : Box (FC w bd bc S0 ms ks (i + 1) (i + 1) wr) := ⟨(hF.out.symm.skip (by omega)).symm⟩
            clear hF
            go_wp2_with fail
            exact ⟨⟨2, by omega, by go_num, hF8⟩, by simp [intOf]⟩
        · replace hF : Box (FC w bd bc S0 ms ks (i + 1) (i + 1) wr) := hF
          go_wp2_with fail
          exact ⟨⟨i + 1, by omega, by go_num, hF⟩, by simp [intOf]; omega⟩
    · obtain rfl : i = 20 := by omega
      have hF2 := hF.out.all (by have := z1.out; omega) (by have := z2.out; omega)
      clear hF
      obtain ⟨wn, hwn⟩ : ∃ wn, wr.alloc (.cells #[.slice a0 M0 C0, .slice a1 M1 C1] 22) = wn := ⟨_, rfl⟩
      have hLv := lived_two w wr wn a0 a1 C0 C1 os ms h0.out h1.out hF2.2 (by have := z0.out; omega) (by have := z1.out; omega) (by rw [z0.out, z1.out]; exact hwn)
      rw [hSe.out] at hLv
      have hws : wr.heap.size ≤ wn.heap.size := by rw [← hwn]; simp
      obtain ⟨bo, hbo⟩ : ∃ bo, wr.heap.size = bo := ⟨_, rfl⟩
      rw [hbo] at hLv hws
      replace hLv := Box.mk hLv
      replace hF2 := Box.mk hF2
      replace hws := Box.mk hws
      go_wp2_with fail
      refine hLv.out.mono ?_
      rintro e w6 ⟨⟨bx, rfl, hDx, h9x, _⟩, hB6⟩
      clear hLv
      have hk6 := hF2.out.2.trans (hB6.out.mono (hbo ▸ hF2.out.2.size))
      obtain ⟨wm, hwm⟩ : ∃ wm, w6.alloc (.cells #[.slice a0 M0 C0, .slice a2 M2 C2] 22) = wm := ⟨_, rfl⟩
      have hLw := lived_two w w6 wm a0 a2 C0 C2 os ks h0.out h2.out hk6 (by have := z0.out; omega) (by have := z2.out; omega) (by rw [z0.out, z2.out]; exact hwm)
      rw [hSe.out] at hLw
      have hwt : w6.heap.size ≤ wm.heap.size := by rw [← hwm]; simp
      obtain ⟨bp, hbp⟩ : ∃ bp, w6.heap.size = bp := ⟨_, rfl⟩
      rw [hbp] at hLw hwt
      replace hLw := Box.mk hLw
      replace hwt := Box.mk hwt
      replace hk6 := Box.mk hk6
      go_wp2_with fail
      refine hLw.out.mono ?_
      rintro e w8 ⟨⟨bz, rfl, hDz, h9z, _⟩, hB8⟩
      clear hLw
      obtain ⟨X, hP1, hP2⟩ := four hF2.out.1 hDx.out (hbo ▸ hws.out) (hbo ▸ hB6.out) hDz.out (hbp ▸ hwt.out) (hbp ▸ hB8.out)
      have hk8 := Box.mk (hk6.out.trans (hB8.out.mono (hbp ▸ hk6.out.size)))
      obtain ⟨cx, hcx, hcx2⟩ := h9x.out
      obtain ⟨cz, hcz, hcz2⟩ := h9z.out
      have hA1 := Box.mk (alike_any _ X w8 bd bx _ hP1 (hcx.wide (by omega)))
      have hcz3 := Box.mk (hcz.wide (show cz ≤ 1000 by omega))
      replace hP2 := Box.mk hP2
      replace hP1 := Box.mk hP1
      clear hF2 hDx hDz hB6 hB8 hcx hcz hk6 hws hwt
      go_wp2_with fail
      refine hA1.out.mono ?_
      rintro e w9 ⟨rfl, hO9⟩
      have hP9 := hP2.out w9 hO9.out
      have hk9 := Box.mk (hk8.out.trans (hO9.out.below hP1.out.b))
      have hA2 := Box.mk (alike_any _ _ w9 bc bz _ hP9 hcz3.out)
      replace hP9 := Box.mk hP9
      clear hA1 hO9 hP1 hP2
      go_wp2_with fail
      refine hA2.out.mono ?_
      rintro e w10 ⟨rfl, hO10⟩
      have hk10 := Box.mk (hk9.out.trans (hO10.out.below hP9.out.b))
      clear hA2 hO10
      go_wp2_with fail
      go_ret
      exact ⟨rfl, hk10.out⟩
end Go.Proofs.Ytcccokdbgmejdaa
