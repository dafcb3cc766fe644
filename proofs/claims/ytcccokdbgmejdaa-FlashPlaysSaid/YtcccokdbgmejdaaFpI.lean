/- One call of a device and of the document's; two new ones. -/
import Derived.Test.YtcccokdbgmejdaaFpH
namespace Go.Proofs.Ytcccokdbgmejdaa
open Go.RowKit

theorem QNext.small {w w' : World} {bw : Nat} {F : Nat → Prop} {C C' : Dev} (h : QAt w bw F C) (hq : QAt w' bw F C') (hc : Chg (fun k => k = bw) w w') : QNext w bw F C' w' :=
  ⟨hq.wide (fun _ hk => .inl hk) (fun k hk => by rcases hk with hk | hk; exact hq.lt k hk; exact hk.2), hc.mono (fun i _ hi => by rw [hi]; exact h.fd)⟩
section
variable {B : Nat} {X : Nat → Prop} {w w' : World} {bd bw : Nat} {D C : Dev} {N c : Nat}
theorem Mix.barrier_l (h : Mix B X w bd bw D C) (hd : DN N c D) (hc : c ≤ 1000) : Calls Try.prog 15 #[.pointer (some ⟨bd, 0, none⟩)] w fun e w' => e = .returned (.int .i64 D.barrierE) ∧ Box (Mix B X w' bd bw D.barrier C) ∧ Box (Others B X w w') := by
  obtain ⟨Y, hv, hY, hk⟩ := h.left
  exact (hv.barrier (by have := hd.t; omega) hd.f).mono fun e w' ⟨a, b, c⟩ => ⟨a, ⟨(hk _ _ b.out c.out).1⟩, ⟨(hk _ _ b.out c.out).2⟩⟩
theorem Mix.barrier_r (h : Mix B X w bd bw D C) (hd : DN N c C) (hc : c ≤ 1000) (hN : 1 ≤ N) : Calls Try.prog 28 #[.pointer (some ⟨bw, 0, none⟩)] w fun e w' => e = .returned (.int .i64 C.barrierE) ∧ Box (Mix B X w' bd bw D C.barrier) ∧ Box (Others B X w w') := by
  obtain ⟨F, hq, hk⟩ := h.right
  exact (qbarrier_any bw F C w hq (by rw [hd.s]; omega) (by have := hd.w; omega) (by have := hd.t; omega) hd.f).mono fun e w' ⟨a, b⟩ => ⟨a, ⟨(hk _ _ b).1⟩, ⟨(hk _ _ b).2⟩⟩
theorem Mix.fall_l (h : Mix B X w bd bw D C) (n : Int) (hn : -9223372036854775808 ≤ n ∧ n ≤ 9223372036854775807) : Calls Try.prog 21 #[.pointer (some ⟨bd, 0, none⟩), .int .i64 n] w fun e w' => e = .returned (.tuple #[]) ∧ Box (Mix B X w' bd bw (D.falls n) C) ∧ Box (Others B X w w') := by
  obtain ⟨Y, hv, hY, hk⟩ := h.left
  exact (hv.fall n hn).mono fun e w' ⟨a, b, c⟩ => ⟨a, ⟨(hk _ _ b.out c.out).1⟩, ⟨(hk _ _ b.out c.out).2⟩⟩
theorem Mix.fall_r (h : Mix B X w bd bw D C) (n : Int) (hn : -9223372036854775808 ≤ n ∧ n ≤ 9223372036854775807) : Calls Try.prog 30 #[.pointer (some ⟨bw, 0, none⟩), .int .i64 n] w fun e w' => e = .returned (.tuple #[]) ∧ Box (Mix B X w' bd bw D (C.falls n)) ∧ Box (Others B X w w') := by
  obtain ⟨F, hq, hk⟩ := h.right
  exact (qfall_any bw F C n w hq hn).mono fun e w' ⟨a, b, c⟩ => ⟨a, ⟨(hk _ _ (QNext.small hq b c)).1⟩, ⟨(hk _ _ (QNext.small hq b c)).2⟩⟩
theorem Mix.crash_l (h : Mix B X w bd bw D C) (hd : DN N c D) (hc : c ≤ 1000) (hN : 1 ≤ N) (v : Value) (keep : List Int) (hI : Ints w (fun k => k < B ∨ X k) v keep) (hkl : keep.length ≤ 9223372036854775807) : Calls Try.prog 18 #[.pointer (some ⟨bd, 0, none⟩), .agg #[v]] w fun e w' => e = .returned (.tuple #[]) ∧ Box (Mix B X w' bd bw (D.crash keep) C) ∧ Box (Others B X w w') := by
  obtain ⟨Y, hv, hY, hk⟩ := h.left
  exact (hv.crash v keep (by rw [hd.s]; omega) (by have := hd.w; omega) (hI.less fun k hk => hk.imp id (hY k)) hkl).mono fun e w' ⟨a, b, c⟩ => ⟨a, ⟨(hk _ _ b.out c.out).1⟩, ⟨(hk _ _ b.out c.out).2⟩⟩
theorem Mix.crash_r (h : Mix B X w bd bw D C) (hd : DN N c C) (hc : c ≤ 1000) (hN : 1 ≤ N) (a : Option Addr) (cc : Nat) (keep : List Int) (hI : Ints w (fun k => k < w.heap.size) (.slice a keep.length cc) keep) (hkl : keep.length ≤ 9223372036854775807) : Calls Try.prog 31 #[.pointer (some ⟨bw, 0, none⟩), .agg #[.slice a keep.length cc]] w fun e w' => e = .returned (.tuple #[]) ∧ Box (Mix B X w' bd bw D (C.crash keep)) ∧ Box (Others B X w w') := by
  obtain ⟨F, hq, hk⟩ := h.right
  exact (qcrash_any bw F C a cc keep w hq (by rw [hd.s]; omega) (by have := hd.w; omega) hI hkl).mono fun e w' ⟨a, b⟩ => ⟨a, ⟨(hk _ _ b).1⟩, ⟨(hk _ _ b).2⟩⟩
theorem Mix.write_l (h : Mix B X w bd bw D C) (hd : DN N c D) (hc : c ≤ 1000) (n : Int) (t : ByteArray) : Calls Try.prog 14 #[.pointer (some ⟨bd, 0, none⟩), .int .i64 n, .string t] w fun e w' => e = .returned (.int .i64 (D.writeE n t.data.toList)) ∧ Box (Mix B X w' bd bw (D.write n t.data.toList) C) ∧ Box (Others B X w w') := by
  obtain ⟨Y, hv, hY, hk⟩ := h.left
  exact (hv.write n t (by have := hd.t; omega) hd.f (by have := hd.w; omega)).mono fun e w' ⟨a, b, c⟩ => ⟨a, ⟨(hk _ _ b.out c.out).1⟩, ⟨(hk _ _ b.out c.out).2⟩⟩
theorem Mix.write_r (h : Mix B X w bd bw D C) (hd : DN N c C) (hc : c ≤ 1000) (n : Int) (t : ByteArray) : Calls Try.prog 32 #[.pointer (some ⟨bw, 0, none⟩), .int .i64 n, .string t] w fun e w' => e = .returned (.int .i64 (C.writeE n t.data.toList)) ∧ Box (Mix B X w' bd bw D (C.write n t.data.toList)) ∧ Box (Others B X w w') := by
  obtain ⟨F, hq, hk⟩ := h.right
  exact (qwrite_any bw F C n t w hq (by have := hd.t; omega) hd.f (by have := hd.w; omega)).mono fun e w' ⟨a, b⟩ => ⟨a, ⟨(hk _ _ b).1⟩, ⟨(hk _ _ b).2⟩⟩
theorem Mix.read_l (h : Mix B X w bd bw D C) (n : Int) : Calls Try.prog 19 #[.pointer (some ⟨bd, 0, none⟩), .int .i64 n] w fun e w' => e = .returned (readR D n) ∧ w = w' := by
  obtain ⟨Y, hv, hY, hk⟩ := h.left
  exact hv.read n
theorem Mix.read_r (h : Mix B X w bd bw D C) (hd : DN N c C) (hc : c ≤ 1000) (n : Int) : Calls Try.prog 29 #[.pointer (some ⟨bw, 0, none⟩), .int .i64 n] w fun e w' => e = .returned (readR C n) ∧ w = w' := by
  obtain ⟨F, hq, hk⟩ := h.right
  exact qread_any bw F C n w hq (by have := hd.w; omega)
end
set_option linter.unusedSimpArgs false in
set_option maxHeartbeats 6400000 in
set_option maxRecDepth 100000 in
theorem step_both (B : Nat) (X : Nat → Prop) (bd bw N c : Nat) (D : Dev) (w : World) (o : OpD) (va : Option Addr) (vc : Nat) (h : Mix B X w bd bw D D) (hd : DN N c D) (hc : c ≤ 900) (hN : 1 ≤ N) (ho : o.ok) (hI : Ints w (fun k => k < B) (.slice va o.f.length vc) o.f) :
    Calls Try.prog 11 #[.pointer (some ⟨bd, 0, none⟩), .pointer (some ⟨bw, 0, none⟩), .agg #[.int .u8 (o.k.toNat : Int), .int .i64 o.n, .string o.s, .slice va o.f.length vc]] w fun e w' => e = .returned (.bool true) ∧ Box (Mix B X w' bd bw (o.dev D) (o.dev D)) ∧ Box (Below B w w') := by
  obtain ⟨k, n, s, f⟩ := o
  obtain ⟨ho1, ho2, ho3⟩ := ho
  simp only at ho1 ho2 ho3 hI ⊢
  obtain ⟨wn, hwn⟩ : ∃ wn, w.alloc (.cells #[.int .u8 (k.toNat : Int), .int .i64 n, .string s, .slice va f.length vc] 32) = wn := ⟨_, rfl⟩
  have hnew := Blk.new w [.int .u8 (k.toNat : Int), .int .i64 n, .string s, .slice va f.length vc] 32
  have hbn : Below w.heap.size w wn := hwn ▸ (Below.refl _ _).alloc (Nat.le_refl _) _
  rw [hwn] at hnew
  obtain ⟨bo, hbo⟩ : ∃ bo, w.heap.size = bo := ⟨_, rfl⟩
  rw [hbo] at hnew
  have e0 : wn.cell? ⟨bo, 0, none⟩ = some (.int .u8 (k.toNat : Int)) := hnew.cell 0
  have e1 : wn.cell? ⟨bo, 1, none⟩ = some (.int .i64 n) := hnew.cell 1
  have e2 : wn.cell? ⟨bo, 2, none⟩ = some (.string s) := hnew.cell 2
  have e3 : wn.cell? ⟨bo, 3, none⟩ = some (.slice va f.length vc) := hnew.cell 3
  have hbl := hnew.lt
  have hM := Box.mk (h.keep hbn (fun k => X k ∨ k = bo) (fun k hk => hk.imp id fun e => by omega))
  have hwB : B ≤ w.heap.size := h.b
  have hO : Box (∀ w', Below B wn w' → Below B w w') := ⟨fun w' h1 => (hbn.mono hwB).trans h1⟩
  have hZ : Box (∀ w' C, Mix B (fun k => X k ∨ k = bo) w' bd bw C C → Mix B X w' bd bw C C) := ⟨fun w' C h1 => h1.keep (Below.refl _ _) X fun k hk => .inl (.inl hk)⟩
  have hI2 := Box.mk (hI.chg (Chg.of_below hbn) (fun k hk _ => by omega))
  have hdB := Box.mk hd
  replace hnew := Box.mk hnew
  clear hI h hbn hd
  generalize hfl : f.length = vl at *
  have hm : (⟨k, n, s, f⟩ : OpD).m = k.toNat % 6 := rfl
  by_cases h2 : k.toNat % 6 = 2
  · have g2 : ((k.toNat : Int) % 6 == 2) = true := by simp; omega
    rw [h2] at hm
    have r3 : (⟨k, n, s, f⟩ : OpD).dev D = D.barrier := by unfold OpD.dev; rw [hm]; rfl
    rw [r3]
    clear hm h2 r3
    have hC := Box.mk (hM.out.barrier_l hdB.out (by omega))
    go_enter Try.func11, Try.ntmps11
    go_wp2_with fail
    refine hC.out.mono ?_
    rintro e w2 ⟨rfl, hM2, hO2⟩
    have hC2 := Box.mk (hM2.out.barrier_r hdB.out (by omega) hN)
    clear hC
    go_wp2_with fail
    refine hC2.out.mono ?_
    rintro e w3 ⟨rfl, hM3, hO3⟩
    have hfin := Box.mk (hO.out _ ((hO2.out.below hM.out.b).trans (hO3.out.below hM2.out.b)))
    have hM4 := Box.mk (hZ.out _ _ hM3.out)
    generalize D.barrierE = be at *
    clear hC2 hO2 hO3
    go_wp2_with fail
    go_ret
    exact ⟨rfl, hM4, hfin⟩
  have g2 : ((k.toNat : Int) % 6 == 2) = false := by simp; omega
  by_cases h3 : k.toNat % 6 = 3
  · have g3 : ((k.toNat : Int) % 6 == 3) = true := by simp; omega
    rw [h3] at hm
    have r3 : (⟨k, n, s, f⟩ : OpD).dev D = D := by unfold OpD.dev; rw [hm]; rfl
    rw [r3]
    clear hm h2 h3 r3
    have hC := hM.out.read_l n
    have hC2 := hM.out.read_r hdB.out (by omega) n
    unfold readR at hC hC2
    have hfin := Box.mk (hO.out _ (Below.refl B wn))
    have hM4 := Box.mk (hZ.out _ _ hM.out)
    generalize (⟨(D.read n).toArray⟩ : ByteArray) = T1 at hC hC2
    generalize D.refused n = R1 at hC hC2
    replace hC := Box.mk hC
    replace hC2 := Box.mk hC2
    go_enter Try.func11, Try.ntmps11
    go_wp2_with fail
    refine hC.out.mono ?_
    rintro e w' ⟨rfl, rfl⟩
    clear hC
    go_wp2_with fail
    refine hC2.out.mono ?_
    rintro e w' ⟨rfl, rfl⟩
    clear hC2
    go_wp2_with fail
    go_ret
    exact ⟨rfl, hM4, hfin⟩
  have g3 : ((k.toNat : Int) % 6 == 3) = false := by simp; omega
  by_cases h4 : k.toNat % 6 = 4
  · have g4 : ((k.toNat : Int) % 6 == 4) = true := by simp; omega
    rw [h4] at hm
    have r3 : (⟨k, n, s, f⟩ : OpD).dev D = D.falls n := by unfold OpD.dev; rw [hm]; rfl
    rw [r3]
    clear hm h2 h3 h4 r3
    have hC := Box.mk (hM.out.fall_l n ho1)
    go_enter Try.func11, Try.ntmps11
    go_wp2_with fail
    refine hC.out.mono ?_
    rintro e w2 ⟨rfl, hM2, hO2⟩
    have hnb : Blk w2 bo _ _ := hO2.out.blk hnew.out (fun h => h.2 (.inr rfl))
    have x1 : w2.cell? ⟨bo, 1, none⟩ = some (.int .i64 n) := hnb.cell 1
    have hC2 := Box.mk (hM2.out.fall_r n ho1)
    clear hC hnb
    go_wp2_with fail
    refine hC2.out.mono ?_
    rintro e w3 ⟨rfl, hM3, hO3⟩
    have hfin := Box.mk (hO.out _ ((hO2.out.below hM.out.b).trans (hO3.out.below hM2.out.b)))
    have hM4 := Box.mk (hZ.out _ _ hM3.out)
    clear hC2 hO2 hO3
    go_wp2_with fail
    go_ret
    exact ⟨rfl, hM4, hfin⟩
  have g4 : ((k.toNat : Int) % 6 == 4) = false := by simp; omega
  by_cases h5 : k.toNat % 6 = 5
  · have g5 : ((k.toNat : Int) % 6 == 5) = true := by simp; omega
    rw [h5] at hm
    have r3 : (⟨k, n, s, f⟩ : OpD).dev D = D.crash f := by unfold OpD.dev; rw [hm]; rfl
    rw [r3]
    clear hm h2 h3 h4 h5 r3
    have hC := Box.mk (hM.out.crash_l hdB.out (by omega) hN (.slice va vl vc) f (hI2.out.less fun k hk => .inl hk) (by omega))
    go_enter Try.func11, Try.ntmps11
    go_wp2_with fail
    refine hC.out.mono ?_
    rintro e w2 ⟨rfl, hM2, hO2⟩
    have hnb : Blk w2 bo _ _ := hO2.out.blk hnew.out (fun h => h.2 (.inr rfl))
    have x3 : w2.cell? ⟨bo, 3, none⟩ = some (.slice va vl vc) := hnb.cell 3
    have hI3 : Ints w2 (fun k => k < w2.heap.size) (.slice va vl vc) f := (hI2.out.chg hO2.out (fun k _ hk hx => by omega)).less (fun k hk => by have := hM2.out.b; omega)
    have hC2 := Box.mk (hM2.out.crash_r hdB.out (by omega) hN va vc f (by rw [hfl]; exact hI3) (by omega))
    rw [hfl] at hC2
    clear hC hnb hI3
    go_wp2_with fail
    refine hC2.out.mono ?_
    rintro e w3 ⟨rfl, hM3, hO3⟩
    have hfin := Box.mk (hO.out _ ((hO2.out.below hM.out.b).trans (hO3.out.below hM2.out.b)))
    have hM4 := Box.mk (hZ.out _ _ hM3.out)
    clear hC2 hO2 hO3
    go_wp2_with fail
    go_ret
    exact ⟨rfl, hM4, hfin⟩
  have g5 : ((k.toNat : Int) % 6 == 5) = false := by simp; omega
  have r3 : (⟨k, n, s, f⟩ : OpD).dev D = D.write n s.data.toList := by unfold OpD.dev; rw [hm, if_neg h2, if_neg h3, if_neg h4, if_neg h5]
  rw [r3]
  clear hm h2 h3 h4 h5 r3
  have hMd : Mix B (fun k => X k ∨ k = bo) wn.drew bd bw D D := hM.out.same (below_drew' _ wn)
  have hnd : Blk wn.drew bo _ _ := hnew.out
  have hC := hMd.write_l hdB.out (by omega) n s
  have hOd : Below B wn wn.drew := below_drew' _ wn
  replace hMd := Box.mk hMd
  replace hC := Box.mk hC
  go_enter Try.func11, Try.ntmps11
  go_wp2_with fail
  refine region_go (C := fun w' => Blk w' bo [.int .u8 (k.toNat : Int), .int .i64 n, .string s, .slice va vl vc] 32) rfl ?_
  generalize wn.drew = wd at hMd hnd hC hOd ⊢
  refine go_calms [0, 1, 2, 3, 4, 6, 7, 8, 9, 10] 4 rfl (by kernel_rfl) (by kernel_rfl) (by kernel_rfl) hnd ?_
  simp [nth]
  repeat (go_big_quiet_step (first | exact fun _ => rfl | rfl))
  refine quiet_any rfl (.int .i64 n) (fun w' hw' => by have z := hw'.cell 1; simp at z; go_simp) ?_
  simp only [Act.put, List.setIfInBounds_toArray, List.set_cons_succ, List.set_cons_zero]
  repeat (go_big_quiet_step (first | exact fun _ => rfl | rfl))
  refine quiet_any rfl (.string s) (fun w' hw' => by have z := hw'.cell 2; simp at z; go_simp) ?_
  simp only [Act.put, List.setIfInBounds_toArray, List.set_cons_succ, List.set_cons_zero]
  repeat (go_big_quiet_step (first | exact fun _ => rfl | rfl))
  refine quiet_any rfl (.int .i64 n) (fun w' hw' => by have z := hw'.cell 1; simp at z; go_simp) ?_
  simp only [Act.put, List.setIfInBounds_toArray, List.set_cons_succ, List.set_cons_zero]
  repeat (go_big_quiet_step (first | exact fun _ => rfl | rfl))
  refine quiet_any rfl (.string s) (fun w' hw' => by have z := hw'.cell 2; simp at z; go_simp) ?_
  simp only [Act.put, List.setIfInBounds_toArray, List.set_cons_succ, List.set_cons_zero]
  repeat (go_big_quiet_step (first | exact fun _ => rfl | rfl))
  refine wpQuiet_nil ?_
  refine go_forced 5 (by kernel_rfl) (goOp_wp 5 rfl rfl (fun K hK => ?_))
  go_simp
  refine hC.out.mono ?_
  rintro e w2 ⟨rfl, hM2, hO2⟩
  have hn2 : Blk w2 bo _ _ := hO2.out.blk hnd (fun h => h.2 (.inr rfl))
  have hC2 := Box.mk (hM2.out.write_r hdB.out (by omega) n s)
  refine hK _ _ hn2 ?_
  clear hK K hC
  refine go_forced 11 (by kernel_rfl) (goOp_wp 11 rfl rfl (fun K hK => ?_))
  go_simp
  refine hC2.out.mono ?_
  rintro e w3 ⟨rfl, hM3, hO3⟩
  have hn3 : Blk w3 bo _ _ := hO3.out.blk hn2 (fun h => h.2 (.inr rfl))
  have hfin := Box.mk (hO.out _ (hOd.trans ((hO2.out.below hMd.out.b).trans (hO3.out.below hM2.out.b))))
  have hM4 := Box.mk (hZ.out _ _ hM3.out)
  refine hK _ _ hn3 ?_
  clear hK K hC2 hO2 hO3
  generalize D.writeE n s.data.toList = be at *
  refine go_calms [12, 13] 0 rfl (by kernel_rfl) (by kernel_rfl) (by kernel_rfl) hn3 ?_
  simp [nth]
  repeat (go_big_quiet_step (first | exact fun _ => rfl | rfl))
  refine wpQuiet_nil ?_
  refine go_done (by kernel_rfl) ?_
  go_wp2_with fail
  go_ret
  exact ⟨rfl, hM4, hfin⟩
/-- Two new ones. -/
def Begun (w : World) (n : Nat) (e : Ending) (w' : World) : Prop :=
  ∃ bd bw, e = .returned (.tuple #[.pointer (some ⟨bd, 0, none⟩), .pointer (some ⟨bw, 0, none⟩), .bool true]) ∧ Box (Mix w.heap.size (fun _ => False) w' bd bw (Dev.new n) (Dev.new n)) ∧ Box (Below w.heap.size w w')
theorem begun_bad (n : Int) (w : World) (hn : n < 1 ∨ 4096 < n) :
    Calls Try.prog 10 #[.int .i64 n] w fun e w' => e = .returned (.tuple #[.pointer none, .pointer none, .bool true]) ∧ w = w' := by
  have h1 := Box.mk (new_bad n w hn)
  have h2 := Box.mk (qnew_bad n w hn)
  go_enter Try.func10, Try.ntmps10
  go_wp2_with fail
  refine h1.out.mono ?_
  rintro e w' ⟨rfl, rfl⟩
  go_wp2_with fail
  refine h2.out.mono ?_
  rintro e w' ⟨rfl, rfl⟩
  go_wp2_with fail
  go_returns
  exact ⟨rfl, rfl⟩
theorem begun_fit (n : Nat) (w : World) (h1 : 1 ≤ n) (h2 : n ≤ 4096) :
    Calls Try.prog 10 #[.int .i64 (n : Int)] w (Begun w n) := by
  have hA := Box.mk (new_fit n w h1 h2)
  go_enter Try.func10, Try.ntmps10
  go_wp2_with fail
  refine hA.out.mono ?_
  rintro e w2 ⟨bd, rfl, hD, hB⟩
  have hQ := Box.mk (qnew_fit n w2 h1 h2)
  clear hA
  replace hD := Box.mk hD
  replace hB := Box.mk hB
  go_wp2_with fail
  refine hQ.out.mono ?_
  rintro e w3 ⟨bw, rfl, hW, hB3⟩
  have hs := hB.out.size
  have hs3 := hB3.size
  have hfin : Box (Mix w.heap.size (fun _ => False) w3 bd bw (Dev.new n) (Dev.new n)) := ⟨⟨⟨_, _, hD.out.below hB3, hW, fun k hk => ⟨hk.1, fun h => h⟩, fun k hk => ⟨by omega, fun h => h⟩, fun k hk hk2 => by omega⟩, fun _ h => h.elim, by omega⟩⟩
  have hBB := Box.mk (hB.out.trans (hB3.mono hs))
  clear hQ hW hB3 hD hB hs hs3
  go_wp2_with fail
  go_returns
  exact ⟨bd, bw, rfl, hfin, hBB⟩
end Go.Proofs.Ytcccokdbgmejdaa
