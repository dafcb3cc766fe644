/- Walks of the document's Number, secret and links. | Walk of the document's digits. | Walks of the document's Public, Sign, Recover. -/
import Derived.Test.YtiblkfkeifnpaaaGreatDoorYop
import Derived.Test.YtiblkfkeifnpaaaGreatDoorYa5
set_option linter.all false
namespace Go.Proofs.YtiblkfkeifnpaaaGreatDoor
open Go Go.RowKit

/-- What the class of a region's worlds is told with: nothing that was there has changed; a row of one byte. -/
def Bw (w0 w : World) : Prop := Below w0.heap.size w0 w
theorem bw_on {w0 w w' : World} (h : Bw w0 w) (k : Below w.heap.size w w') : Bw w0 w' := Below.trans h (k.mono (Below.size h))
theorem bw_al {w0 w : World} (h : Bw w0 w) (o : Obj) : Bw w0 (w.alloc o) := Below.alloc h (Below.size h) o
def Rw (a : Nat) (x : UInt8) (w : World) : Prop := w.ownsRow a 5 1 (.slice (some ⟨a, 0, none⟩) 1 1) [x].length ([x].map yc)
theorem rw_new (w : World) (x : UInt8) : Rw w.heap.size x (w.alloc (.cells #[Value.int .u8 (x.toNat : Int)] 5)) := own_one w x
theorem Rw.here {a : Nat} {x : UInt8} {w w' : World} (h : Rw a x w) (hb : Below w.heap.size w w') : Rw a x w' := ownsRow_below h hb
theorem Rw.text {a : Nat} {x : UInt8} {w : World} (h : Rw a x w) : (convert 52 9 (.slice (some ⟨a, 0, none⟩) 1 1)).run Tryz.prog w = .ok (.string (one x)) w := own_text h
theorem stB (w0 : World) : St (fun w' => Bw w0 w') (fun w w' => Below w.heap.size w w') (fun w' => Bw w0 w') := ⟨fun _ h => h, fun _ _ h k => bw_on h k⟩
theorem st1 (w0 : World) (a : Nat) (x : UInt8) : St (fun w' => Bw w0 w') (fun w w' => Below w.heap.size w w') (fun w' => Bw w0 w' ∧ Rw a x w') := ⟨fun _ h => h.1, fun _ _ h k => ⟨bw_on h.1 k, h.2.here k⟩⟩
theorem st2 (w0 : World) (a b : Nat) (x y : UInt8) : St (fun w' => Bw w0 w') (fun w w' => Below w.heap.size w w') (fun w' => Bw w0 w' ∧ Rw a x w' ∧ Rw b y w') := ⟨fun _ h => h.1, fun _ _ h k => ⟨bw_on h.1 k, h.2.1.here k, h.2.2.here k⟩⟩
theorem parts_here {w w' : World} {v : Value} {ps : List ByteArray} (h : PartsAt w v ps) (hb : Below w.heap.size w w') : PartsAt w' v ps := by
  obtain ⟨a, c, e, hc⟩ := h.ex
  refine ⟨a, c, e, fun h0 => ?_⟩
  obtain ⟨blk, off, ea, hl, hcell⟩ := hc h0
  exact ⟨blk, off, ea, Nat.lt_of_lt_of_le hl hb.size, fun j hj => (hb.cell (p := ⟨blk, off + j, none⟩) hl).trans (hcell j hj)⟩
theorem stP (w0 : World) (v : Value) (ps : List ByteArray) : St (fun w' => Bw w0 w') (fun w w' => Below w.heap.size w w') (fun w' => Bw w0 w' ∧ PartsAt w' v ps) := ⟨fun _ h => h.1, fun _ _ h k => ⟨bw_on h.1 k, parts_here h.2 k⟩⟩
theorem beN_two (n : Nat) : beN n 2 = [UInt8.ofNat (n / 256), UInt8.ofNat n] := by
  have h : ∀ m : Nat, UInt8.ofNat (m % 256) = UInt8.ofNat m := fun m => by
    apply UInt8.toNat_inj.1
    rw [UInt8.toNat_ofNat', UInt8.toNat_ofNat']; omega
  simp [beN, h]

set_option maxHeartbeats 800000 in
set_option maxRecDepth 100000 in
theorem rnumber_any (n : Nat) (w : World) :
    Calls Tryz.prog 70 #[.int .u64 (n : Int), .int .i64 2] w fun e w' => e = .returned (.string (by2 n)) ∧ Below w.heap.size w w' := by
  have hN : Calls Tryz.prog 103 #[.slice none 0 0, .int .u64 (n : Int), .int .i64 2] w _ := number_any w.heap.size w w (.slice none 0 0) [] n 2 (by omega) ⟨World.ownsRow_nil _ _ _ _⟩ ⟨Below.refl _ _⟩ (Nat.le_refl _) (by simp)
  rw [List.nil_append, beN_two] at hN
  go_enter Tryz.func70, Tryz.ntmps70
  go_wp2_with fail
  refine hN.mono ?_
  clear hN
  rintro e w1 ⟨v1, rfl, hO, hB, _, b1, n1, c1, rfl⟩
  have hcv := own_text hO.out
  rw [show (⟨[UInt8.ofNat (n / 256), UInt8.ofNat n].toArray⟩ : ByteArray) = by2 n from rfl] at hcv
  clear hO
  go_wp2_with fail
  go_ret
  exact ⟨rfl, hB.out⟩

set_option maxHeartbeats 3200000 in
set_option maxRecDepth 100000 in
theorem rsec_any (s : ByteArray) (n i : Nat) (w : World) (hs : s.size ≤ 140737488351232) (hn : n < 65536) (hi : i < 256) :
    Calls Tryz.prog 114 #[.string s, .int .i64 (n : Int), .int .i64 (i : Int)] w fun e w' => e = .returned (.string (secV s n i)) ∧ Below w.heap.size w w' := by
  have hNum := fun w => rnumber_any n w
  have hsz : (tagL 32 [s, by2 n, by1 i]).length ≤ 140737488354000 := by
    have h2 : (by2 n).size = 2 := rfl
    have h1 : (by1 i).size = 1 := rfl
    simp only [tagL, tagP, List.flatMap_cons, List.flatMap_nil, List.length_cons, List.length_append, data_len, be4_length, List.length_nil, h1, h2]
    omega
  have hts := tagS_size 32 [s, by2 n, by1 i]
  have hval : (tagS 32 [s, by2 n, by1 i]).extract 0 16 = secV s n i := rfl
  obtain ⟨ts, hTS⟩ : ∃ ts, tagS 32 [s, by2 n, by1 i] = ts := ⟨_, rfl⟩
  have hTg := fun w1 => parts_new w1 [s, by2 n, by1 i] 9
  have hTg' := fun w1 v (h : PartsAt w1 v [s, by2 n, by1 i]) => rtag_parts 32 v [s, by2 n, by1 i] w1 h hsz (by simp)
  rw [show hashOf (tagL 32 [s, by2 n, by1 i]) = ts from hTS] at hTg'
  rw [hTS] at hts hval
  obtain ⟨x, hx⟩ : ∃ x, UInt8.ofNat i = x := ⟨_, rfl⟩
  have hv : (i : Int) = (x.toNat : Int) := by rw [← hx, UInt8.toNat_ofNat']; omega
  have hxl : x.toNat < 256 := x.toNat_lt
  rw [show by1 i = one x by rw [by1, hx]] at hTg hTg'
  obtain ⟨y, hy⟩ : ∃ y, secV s n i = y := ⟨_, rfl⟩
  rw [hy] at hval ⊢
  rw [hv]
  have hBd : Box (Below w.heap.size w w.drew) := ⟨Drawn.below ⟨1, rfl⟩⟩
  replace hy := Box.mk hy
  clear hsz hTS hx hv
  go_enter Tryz.func114, Tryz.ntmps114
  go_wp2_with fail
  refine region_steady (fun w' => Bw w w') (fun w w' => Below w.heap.size w w') rfl hBd.out ?_
  refine anyS_calms [0, 1, 2, 4, 5] 7 rfl (fun _ => Below.refl _ _) (stB w) (by kernel_rfl) (by kernel_rfl) (by kernel_rfl) ?_
  simp [nth]
  try simp only [Act.put]
  repeat (go_big_quiet_step (first | exact fun _ => rfl | rfl))
  refine wpQuiet_nil ?_
  refine anyS_call 3 (.string (by2 n)) (fun _ => Below.refl _ _) (stB w) (by kernel_rfl) rfl (by kernel_rfl) (by kernel_rfl) rfl (fun w' _ => hNum w') (fun w' _ => by go_simp) ?_
  refine anyS_forced 6 (by kernel_rfl) rfl rfl (fun wa hWa K hK => ?_)
  go_simp
  have hb := bw_al hWa (.cells #[Value.int .u8 (x.toNat : Int)] 5)
  have hr6 := rw_new wa x
  obtain ⟨a6, ha⟩ : ∃ a, wa.heap.size = a := ⟨_, rfl⟩
  rw [ha] at hr6 ⊢
  refine hK _ _ (fun w' => Bw w w' ∧ Rw a6 x w') (st1 w _ _) ⟨hb, hr6⟩ ?_
  clear hK K hWa hb ha hr6
  refine anyS_forced 7 (by kernel_rfl) rfl rfl (fun wa hWa K hK => ?_)
  have hcv := Rw.text hWa.2
  go_simp
  refine hK _ _ (fun w' => Bw w w') (stB w) hWa.1 ?_
  clear hK K hWa hcv
  refine anyS_forced 8 (by kernel_rfl) rfl rfl (fun wa hWa K hK => ?_)
  have hF := hTg wa
  have hBt := bw_al hWa (.cells #[.string s, .string (by2 n), .string (one x)] 9)
  go_simp
  obtain ⟨at12, ha⟩ : ∃ a, wa.heap.size = a := ⟨_, rfl⟩
  rw [ha] at hF ⊢
  refine hK _ _ (fun w' => Bw w w' ∧ PartsAt w' (.slice (some ⟨at12, 0, none⟩) 3 3) [s, by2 n, one x]) (stP w _ _) ⟨hBt, hF⟩ ?_
  clear hK K hWa hF hBt ha
  refine anyS_end 9 (by kernel_rfl) rfl rfl (by kernel_rfl) (fun wa hWa K hK => ?_)
  have hF := hTg' wa _ hWa.2
  go_simp
  refine hF.mono ?_
  rintro e we ⟨rfl, hbe⟩
  refine hK _ _ ?_
  have hBe : Box (Below w.heap.size w we) := ⟨bw_on hWa.1 hbe⟩
  clear hK K hF hWa hbe
  refine go_calms [10, 11] 0 rfl (by kernel_rfl) (by kernel_rfl) (by kernel_rfl) True.intro ?_
  simp [nth]
  try simp only [Act.put]
  repeat (go_big_quiet_step (first | exact fun _ => rfl | rfl))
  refine wpQuiet_nil ?_
  refine go_done (by kernel_rfl) ?_
  go_simp
  go_wp2_with fail
  go_ret
  exact ⟨rfl, hBe.out⟩

set_option maxHeartbeats 12800000 in
set_option maxRecDepth 100000 in
theorem rlinks_any (s : ByteArray) (n i a c : Nat) (w : World) (hs : s.size = 16) (hn : n < 65536) (hi : i < 256) (hac : a + c ≤ 15) :
    Calls Tryz.prog 113 #[.int .i64 (n : Int), .int .i64 (i : Int), .int .i64 (a : Int), .int .i64 ((a + c : Nat) : Int), .string s] w fun e w' => e = .returned (.string (linksV n i a c s)) ∧ Below w.heap.size w w' := by
  obtain ⟨b, hb⟩ : ∃ b, a + c = b := ⟨_, rfl⟩
  rw [hb]
  have hNum := fun w => rnumber_any n w
  have hB0 : Box (Below w.heap.size w w) := ⟨Below.refl _ _⟩
  obtain ⟨x, hx⟩ : ∃ x, UInt8.ofNat i = x := ⟨_, rfl⟩
  have hv : (i : Int) = (x.toNat : Int) := by rw [← hx, UInt8.toNat_ofNat']; omega
  have hxl : x.toNat < 256 := x.toNat_lt
  have hbx : by1 i = one x := by rw [by1, hx]
  rw [hv]
  clear hx hv
  go_enter Tryz.func113, Tryz.ntmps113
  go_wp2_with fail
  go_loopw [4, 11] (fun v q wr => ∃ k : Nat, k ≤ c ∧ v = .string (linksV n i a k s) ∧ q = .int .i64 ((a : Int) + (k : Int)) ∧ Box (Below w.heap.size w wr)) (fun _ q _ => b - (intOf q).toNat)
  case atStart => exact ⟨0, by omega, rfl, by simp, hB0⟩
  case round =>
    clear hB0
    obtain ⟨k, hk, rfl, rfl, hB⟩ := hrel
    by_cases hlt : k < c
    · obtain ⟨z, hz⟩ : ∃ z, linksV n i a k s = z := ⟨_, rfl⟩
      have hzs : z.size = 16 := by rw [← hz]; exact linksV_size n i a s hs k
      have hnext : linkV n i (a + k) z = linksV n i a (k + 1) s := by rw [linksV, hz]
      have hsz : (tagL 33 [by2 n, by1 i, by1 (a + k), z]).length ≤ 140737488354000 := by
        have h2 : (by2 n).size = 2 := rfl
        have h1 : (by1 i).size = 1 := rfl
        have h3 : (by1 (a + k)).size = 1 := rfl
        simp only [tagL, tagP, List.flatMap_cons, List.flatMap_nil, List.length_cons, List.length_append, data_len, be4_length, List.length_nil, h1, h2, h3, hzs]
        omega
      have hts := tagS_size 33 [by2 n, by1 i, by1 (a + k), z]
      have hval : (tagS 33 [by2 n, by1 i, by1 (a + k), z]).extract 0 16 = linksV n i a (k + 1) s := hnext
      obtain ⟨ts, hTS⟩ : ∃ ts, tagS 33 [by2 n, by1 i, by1 (a + k), z] = ts := ⟨_, rfl⟩
      have hTg := fun w1 => parts_new w1 [by2 n, by1 i, by1 (a + k), z] 9
      have hTg' := fun w1 v (h : PartsAt w1 v [by2 n, by1 i, by1 (a + k), z]) => rtag_parts 33 v [by2 n, by1 i, by1 (a + k), z] w1 h hsz (by simp)
      rw [show hashOf (tagL 33 [by2 n, by1 i, by1 (a + k), z]) = ts from hTS] at hTg'
      rw [hTS] at hts hval
      obtain ⟨p, hp⟩ : ∃ p, UInt8.ofNat (a + k) = p := ⟨_, rfl⟩
      have hpv : (a : Int) + (k : Int) = (p.toNat : Int) := by rw [← hp, UInt8.toNat_ofNat']; omega
      have hpl : p.toNat < 256 := p.toNat_lt
      rw [hbx, show by1 (a + k) = one p by rw [by1, hp]] at hTg hTg'
      obtain ⟨y, hy⟩ : ∃ y, linksV n i a (k + 1) s = y := ⟨_, rfl⟩
      rw [hy] at hval
      rw [hz, hpv]
      have hpb : p.toNat < b := by omega
      have hpv2 : (p.toNat : Int) + 1 = (a : Int) + ((k + 1 : Nat) : Int) := by omega
      replace hpv2 := Box.mk hpv2
      replace hz := Box.mk hz
      replace hy := Box.mk hy
      clear hsz hTS hnext hp hpv hbx
      go_wp2_with fail
      have hBd : Box (Below w.heap.size w wr.drew) := ⟨hB.out.trans (Drawn.below ⟨1, rfl⟩)⟩
      clear hB
      refine region_steady (fun w' => Bw w w') (fun w w' => Below w.heap.size w w') rfl hBd.out ?_
      refine anyS_calms [0, 1, 3, 4, 7, 8, 11] 9 rfl (fun _ => Below.refl _ _) (stB w) (by kernel_rfl) (by kernel_rfl) (by kernel_rfl) ?_
      simp [nth]
      try simp only [Act.put]
      repeat (go_big_quiet_step (first | exact fun _ => rfl | rfl))
      refine wpQuiet_nil ?_
      refine anyS_call 2 (.string (by2 n)) (fun _ => Below.refl _ _) (stB w) (by kernel_rfl) rfl (by kernel_rfl) (by kernel_rfl) rfl (fun w' _ => hNum w') (fun w' _ => by go_simp) ?_
      refine anyS_fork 5 9 (by kernel_rfl) rfl rfl rfl rfl (fun wa hWa K hK => ?_) (fun wa hWa K hK => ?_)
      · go_simp
        have hb := bw_al hWa (.cells #[Value.int .u8 (x.toNat : Int)] 5)
        have hr5 := rw_new wa x
        obtain ⟨a5, ha⟩ : ∃ a, wa.heap.size = a := ⟨_, rfl⟩
        rw [ha] at hr5 ⊢
        refine hK _ _ (fun w' => Bw w w' ∧ Rw a5 x w') (st1 w _ _) ⟨hb, hr5⟩ ?_
        clear hK K hWa hb ha hr5
        refine anyS_fork 6 9 (by kernel_rfl) rfl rfl rfl rfl (fun wa hWa K hK => ?_) (fun wa hWa K hK => ?_)
        · have hcv := Rw.text hWa.2
          go_simp
          refine hK _ _ (fun w' => Bw w w') (stB w) hWa.1 ?_
          clear hK K hWa hcv
          refine anyS_forced 9 (by kernel_rfl) rfl rfl (fun wa hWa K hK => ?_)
          go_simp
          have hb := bw_al hWa (.cells #[Value.int .u8 (p.toNat : Int)] 5)
          have hr9 := rw_new wa p
          obtain ⟨a9, ha⟩ : ∃ a, wa.heap.size = a := ⟨_, rfl⟩
          rw [ha] at hr9 ⊢
          refine hK _ _ (fun w' => Bw w w' ∧ Rw a9 p w') (st1 w _ _) ⟨hb, hr9⟩ ?_
          clear hK K hWa hb ha hr9
          refine anyS_forced 10 (by kernel_rfl) rfl rfl (fun wa hWa K hK => ?_)
          have hcv := Rw.text hWa.2
          go_simp
          refine hK _ _ (fun w' => Bw w w') (stB w) hWa.1 ?_
          clear hK K hWa hcv
          refine anyS_forced 12 (by kernel_rfl) rfl rfl (fun wa hWa K hK => ?_)
          have hF := hTg wa
          have hBt := bw_al hWa (.cells #[.string (by2 n), .string (one x), .string (one p), .string z] 9)
          go_simp
          obtain ⟨at12, ha⟩ : ∃ a, wa.heap.size = a := ⟨_, rfl⟩
          rw [ha] at hF ⊢
          refine hK _ _ (fun w' => Bw w w' ∧ PartsAt w' (.slice (some ⟨at12, 0, none⟩) 4 4) [by2 n, one x, one p, z]) (stP w _ _) ⟨hBt, hF⟩ ?_
          clear hK K hWa hF hBt ha
          refine anyS_end 13 (by kernel_rfl) rfl rfl (by kernel_rfl) (fun wa hWa K hK => ?_)
          have hF := hTg' wa _ hWa.2
          go_simp
          refine hF.mono ?_
          rintro e we ⟨rfl, hbe⟩
          refine hK _ _ ?_
          have hBe : Box (Below w.heap.size w we) := ⟨bw_on hWa.1 hbe⟩
          clear hK K hF hWa hbe
          refine go_calms [14, 15] 0 rfl (by kernel_rfl) (by kernel_rfl) (by kernel_rfl) True.intro ?_
          simp [nth]
          try simp only [Act.put]
          repeat (go_big_quiet_step (first | exact fun _ => rfl | rfl))
          refine wpQuiet_nil ?_
          refine go_done (by kernel_rfl) ?_
          go_simp
          go_wp2_with fail
          exact ⟨⟨k + 1, by omega, by rw [hy.out], by rw [hpv2.out], hBe⟩, by simp [intOf]; omega⟩
        · go_simp
          have hb := bw_al hWa.1 (.cells #[Value.int .u8 (p.toNat : Int)] 5)
          have hr9 := rw_new wa p
          have hr5 := Rw.here hWa.2 ((Below.refl _ _).alloc (Nat.le_refl _) (.cells #[Value.int .u8 (p.toNat : Int)] 5))
          obtain ⟨a9, ha⟩ : ∃ a, wa.heap.size = a := ⟨_, rfl⟩
          rw [ha] at hr9 ⊢
          refine hK _ _ (fun w' => Bw w w' ∧ Rw a5 x w' ∧ Rw a9 p w') (st2 w _ _ _ _) ⟨hb, hr5, hr9⟩ ?_
          clear hK K hWa hb ha hr5 hr9
          refine anyS_fork 6 10 (by kernel_rfl) rfl rfl rfl rfl (fun wa hWa K hK => ?_) (fun wa hWa K hK => ?_)
          · have hcv := Rw.text hWa.2.1
            go_simp
            refine hK _ _ (fun w' => Bw w w' ∧ Rw a9 p w') (st1 w _ _) ⟨hWa.1, hWa.2.2⟩ ?_
            clear hK K hWa hcv
            refine anyS_forced 10 (by kernel_rfl) rfl rfl (fun wa hWa K hK => ?_)
            have hcv := Rw.text hWa.2
            go_simp
            refine hK _ _ (fun w' => Bw w w') (stB w) hWa.1 ?_
            clear hK K hWa hcv
            refine anyS_forced 12 (by kernel_rfl) rfl rfl (fun wa hWa K hK => ?_)
            have hF := hTg wa
            have hBt := bw_al hWa (.cells #[.string (by2 n), .string (one x), .string (one p), .string z] 9)
            go_simp
            obtain ⟨at12, ha⟩ : ∃ a, wa.heap.size = a := ⟨_, rfl⟩
            rw [ha] at hF ⊢
            refine hK _ _ (fun w' => Bw w w' ∧ PartsAt w' (.slice (some ⟨at12, 0, none⟩) 4 4) [by2 n, one x, one p, z]) (stP w _ _) ⟨hBt, hF⟩ ?_
            clear hK K hWa hF hBt ha
            refine anyS_end 13 (by kernel_rfl) rfl rfl (by kernel_rfl) (fun wa hWa K hK => ?_)
            have hF := hTg' wa _ hWa.2
            go_simp
            refine hF.mono ?_
            rintro e we ⟨rfl, hbe⟩
            refine hK _ _ ?_
            have hBe : Box (Below w.heap.size w we) := ⟨bw_on hWa.1 hbe⟩
            clear hK K hF hWa hbe
            refine go_calms [14, 15] 0 rfl (by kernel_rfl) (by kernel_rfl) (by kernel_rfl) True.intro ?_
            simp [nth]
            try simp only [Act.put]
            repeat (go_big_quiet_step (first | exact fun _ => rfl | rfl))
            refine wpQuiet_nil ?_
            refine go_done (by kernel_rfl) ?_
            go_simp
            go_wp2_with fail
            exact ⟨⟨k + 1, by omega, by rw [hy.out], by rw [hpv2.out], hBe⟩, by simp [intOf]; omega⟩
          · have hcv := Rw.text hWa.2.2
            go_simp
            refine hK _ _ (fun w' => Bw w w' ∧ Rw a5 x w') (st1 w _ _) ⟨hWa.1, hWa.2.1⟩ ?_
            clear hK K hWa hcv
            refine anyS_forced 6 (by kernel_rfl) rfl rfl (fun wa hWa K hK => ?_)
            have hcv := Rw.text hWa.2
            go_simp
            refine hK _ _ (fun w' => Bw w w') (stB w) hWa.1 ?_
            clear hK K hWa hcv
            refine anyS_forced 12 (by kernel_rfl) rfl rfl (fun wa hWa K hK => ?_)
            have hF := hTg wa
            have hBt := bw_al hWa (.cells #[.string (by2 n), .string (one x), .string (one p), .string z] 9)
            go_simp
            obtain ⟨at12, ha⟩ : ∃ a, wa.heap.size = a := ⟨_, rfl⟩
            rw [ha] at hF ⊢
            refine hK _ _ (fun w' => Bw w w' ∧ PartsAt w' (.slice (some ⟨at12, 0, none⟩) 4 4) [by2 n, one x, one p, z]) (stP w _ _) ⟨hBt, hF⟩ ?_
            clear hK K hWa hF hBt ha
            refine anyS_end 13 (by kernel_rfl) rfl rfl (by kernel_rfl) (fun wa hWa K hK => ?_)
            have hF := hTg' wa _ hWa.2
            go_simp
            refine hF.mono ?_
            rintro e we ⟨rfl, hbe⟩
            refine hK _ _ ?_
            have hBe : Box (Below w.heap.size w we) := ⟨bw_on hWa.1 hbe⟩
            clear hK K hF hWa hbe
            refine go_calms [14, 15] 0 rfl (by kernel_rfl) (by kernel_rfl) (by kernel_rfl) True.intro ?_
            simp [nth]
            try simp only [Act.put]
            repeat (go_big_quiet_step (first | exact fun _ => rfl | rfl))
            refine wpQuiet_nil ?_
            refine go_done (by kernel_rfl) ?_
            go_simp
            go_wp2_with fail
            exact ⟨⟨k + 1, by omega, by rw [hy.out], by rw [hpv2.out], hBe⟩, by simp [intOf]; omega⟩
      · go_simp
        have hb := bw_al hWa (.cells #[Value.int .u8 (p.toNat : Int)] 5)
        have hr9 := rw_new wa p
        obtain ⟨a9, ha⟩ : ∃ a, wa.heap.size = a := ⟨_, rfl⟩
        rw [ha] at hr9 ⊢
        refine hK _ _ (fun w' => Bw w w' ∧ Rw a9 p w') (st1 w _ _) ⟨hb, hr9⟩ ?_
        clear hK K hWa hb ha hr9
        refine anyS_fork 5 10 (by kernel_rfl) rfl rfl rfl rfl (fun wa hWa K hK => ?_) (fun wa hWa K hK => ?_)
        · go_simp
          have hb := bw_al hWa.1 (.cells #[Value.int .u8 (x.toNat : Int)] 5)
          have hr5 := rw_new wa x
          have hr9 := Rw.here hWa.2 ((Below.refl _ _).alloc (Nat.le_refl _) (.cells #[Value.int .u8 (x.toNat : Int)] 5))
          obtain ⟨a5, ha⟩ : ∃ a, wa.heap.size = a := ⟨_, rfl⟩
          rw [ha] at hr5 ⊢
          refine hK _ _ (fun w' => Bw w w' ∧ Rw a5 x w' ∧ Rw a9 p w') (st2 w _ _ _ _) ⟨hb, hr5, hr9⟩ ?_
          clear hK K hWa hb ha hr5 hr9
          refine anyS_fork 6 10 (by kernel_rfl) rfl rfl rfl rfl (fun wa hWa K hK => ?_) (fun wa hWa K hK => ?_)
          · have hcv := Rw.text hWa.2.1
            go_simp
            refine hK _ _ (fun w' => Bw w w' ∧ Rw a9 p w') (st1 w _ _) ⟨hWa.1, hWa.2.2⟩ ?_
            clear hK K hWa hcv
            refine anyS_forced 10 (by kernel_rfl) rfl rfl (fun wa hWa K hK => ?_)
            have hcv := Rw.text hWa.2
            go_simp
            refine hK _ _ (fun w' => Bw w w') (stB w) hWa.1 ?_
            clear hK K hWa hcv
            refine anyS_forced 12 (by kernel_rfl) rfl rfl (fun wa hWa K hK => ?_)
            have hF := hTg wa
            have hBt := bw_al hWa (.cells #[.string (by2 n), .string (one x), .string (one p), .string z] 9)
            go_simp
            obtain ⟨at12, ha⟩ : ∃ a, wa.heap.size = a := ⟨_, rfl⟩
            rw [ha] at hF ⊢
            refine hK _ _ (fun w' => Bw w w' ∧ PartsAt w' (.slice (some ⟨at12, 0, none⟩) 4 4) [by2 n, one x, one p, z]) (stP w _ _) ⟨hBt, hF⟩ ?_
            clear hK K hWa hF hBt ha
            refine anyS_end 13 (by kernel_rfl) rfl rfl (by kernel_rfl) (fun wa hWa K hK => ?_)
            have hF := hTg' wa _ hWa.2
            go_simp
            refine hF.mono ?_
            rintro e we ⟨rfl, hbe⟩
            refine hK _ _ ?_
            have hBe : Box (Below w.heap.size w we) := ⟨bw_on hWa.1 hbe⟩
            clear hK K hF hWa hbe
            refine go_calms [14, 15] 0 rfl (by kernel_rfl) (by kernel_rfl) (by kernel_rfl) True.intro ?_
            simp [nth]
            try simp only [Act.put]
            repeat (go_big_quiet_step (first | exact fun _ => rfl | rfl))
            refine wpQuiet_nil ?_
            refine go_done (by kernel_rfl) ?_
            go_simp
            go_wp2_with fail
            exact ⟨⟨k + 1, by omega, by rw [hy.out], by rw [hpv2.out], hBe⟩, by simp [intOf]; omega⟩
          · have hcv := Rw.text hWa.2.2
            go_simp
            refine hK _ _ (fun w' => Bw w w' ∧ Rw a5 x w') (st1 w _ _) ⟨hWa.1, hWa.2.1⟩ ?_
            clear hK K hWa hcv
            refine anyS_forced 6 (by kernel_rfl) rfl rfl (fun wa hWa K hK => ?_)
            have hcv := Rw.text hWa.2
            go_simp
            refine hK _ _ (fun w' => Bw w w') (stB w) hWa.1 ?_
            clear hK K hWa hcv
            refine anyS_forced 12 (by kernel_rfl) rfl rfl (fun wa hWa K hK => ?_)
            have hF := hTg wa
            have hBt := bw_al hWa (.cells #[.string (by2 n), .string (one x), .string (one p), .string z] 9)
            go_simp
            obtain ⟨at12, ha⟩ : ∃ a, wa.heap.size = a := ⟨_, rfl⟩
            rw [ha] at hF ⊢
            refine hK _ _ (fun w' => Bw w w' ∧ PartsAt w' (.slice (some ⟨at12, 0, none⟩) 4 4) [by2 n, one x, one p, z]) (stP w _ _) ⟨hBt, hF⟩ ?_
            clear hK K hWa hF hBt ha
            refine anyS_end 13 (by kernel_rfl) rfl rfl (by kernel_rfl) (fun wa hWa K hK => ?_)
            have hF := hTg' wa _ hWa.2
            go_simp
            refine hF.mono ?_
            rintro e we ⟨rfl, hbe⟩
            refine hK _ _ ?_
            have hBe : Box (Below w.heap.size w we) := ⟨bw_on hWa.1 hbe⟩
            clear hK K hF hWa hbe
            refine go_calms [14, 15] 0 rfl (by kernel_rfl) (by kernel_rfl) (by kernel_rfl) True.intro ?_
            simp [nth]
            try simp only [Act.put]
            repeat (go_big_quiet_step (first | exact fun _ => rfl | rfl))
            refine wpQuiet_nil ?_
            refine go_done (by kernel_rfl) ?_
            go_simp
            go_wp2_with fail
            exact ⟨⟨k + 1, by omega, by rw [hy.out], by rw [hpv2.out], hBe⟩, by simp [intOf]; omega⟩
        · have hcv := Rw.text hWa.2
          go_simp
          refine hK _ _ (fun w' => Bw w w') (stB w) hWa.1 ?_
          clear hK K hWa hcv
          refine anyS_forced 5 (by kernel_rfl) rfl rfl (fun wa hWa K hK => ?_)
          go_simp
          have hb := bw_al hWa (.cells #[Value.int .u8 (x.toNat : Int)] 5)
          have hr5 := rw_new wa x
          obtain ⟨a5, ha⟩ : ∃ a, wa.heap.size = a := ⟨_, rfl⟩
          rw [ha] at hr5 ⊢
          refine hK _ _ (fun w' => Bw w w' ∧ Rw a5 x w') (st1 w _ _) ⟨hb, hr5⟩ ?_
          clear hK K hWa hb ha hr5
          refine anyS_forced 6 (by kernel_rfl) rfl rfl (fun wa hWa K hK => ?_)
          have hcv := Rw.text hWa.2
          go_simp
          refine hK _ _ (fun w' => Bw w w') (stB w) hWa.1 ?_
          clear hK K hWa hcv
          refine anyS_forced 12 (by kernel_rfl) rfl rfl (fun wa hWa K hK => ?_)
          have hF := hTg wa
          have hBt := bw_al hWa (.cells #[.string (by2 n), .string (one x), .string (one p), .string z] 9)
          go_simp
          obtain ⟨at12, ha⟩ : ∃ a, wa.heap.size = a := ⟨_, rfl⟩
          rw [ha] at hF ⊢
          refine hK _ _ (fun w' => Bw w w' ∧ PartsAt w' (.slice (some ⟨at12, 0, none⟩) 4 4) [by2 n, one x, one p, z]) (stP w _ _) ⟨hBt, hF⟩ ?_
          clear hK K hWa hF hBt ha
          refine anyS_end 13 (by kernel_rfl) rfl rfl (by kernel_rfl) (fun wa hWa K hK => ?_)
          have hF := hTg' wa _ hWa.2
          go_simp
          refine hF.mono ?_
          rintro e we ⟨rfl, hbe⟩
          refine hK _ _ ?_
          have hBe : Box (Below w.heap.size w we) := ⟨bw_on hWa.1 hbe⟩
          clear hK K hF hWa hbe
          refine go_calms [14, 15] 0 rfl (by kernel_rfl) (by kernel_rfl) (by kernel_rfl) True.intro ?_
          simp [nth]
          try simp only [Act.put]
          repeat (go_big_quiet_step (first | exact fun _ => rfl | rfl))
          refine wpQuiet_nil ?_
          refine go_done (by kernel_rfl) ?_
          go_simp
          go_wp2_with fail
          exact ⟨⟨k + 1, by omega, by rw [hy.out], by rw [hpv2.out], hBe⟩, by simp [intOf]; omega⟩
    · obtain rfl : k = c := by omega
      go_wp2_with fail
      go_ret
      exact ⟨rfl, hB.out⟩
end Go.Proofs.YtiblkfkeifnpaaaGreatDoor

namespace Go.Proofs.YtiblkfkeifnpaaaGreatDoor
open Go Go.RowKit

theorem Blk.twoA {w : World} {b i q : Nat} {l : List UInt8} (h : Blk w b (dcell (digP l i)) 142) (hi : i < 8) :
    Blk (w.setCell ⟨b, 2 * i, none⟩ (.int .i64 (q : Int))) b (dcell (digP l i ++ [q])) 142 := by
  have h1 := h.setCell (2 * i) (.int .i64 (q : Int))
  rwa [dcell_push _ q (2 * i) (digP_length l i) (by omega)] at h1
set_option maxHeartbeats 3200000 in
set_option maxRecDepth 100000 in
theorem rdigits_any (t : ByteArray) (w : World) (ht : t.size ≤ 140737488351232) :
    Calls Tryz.prog 115 #[.string t] w fun e w' => e = .returned (.agg (dcell (digs (headL t))).toArray) ∧ Below w.heap.size w w' := by
  have hW1 : Below w.heap.size w (w.alloc (.cells zeros18 142)) := (Below.refl _ _).alloc (Nat.le_refl _) _
  have hR1 : Box (Blk (w.alloc (.cells zeros18 142)) w.heap.size (dcell []) 142) := ⟨zeros18_blk w⟩
  have hs1 : (w.alloc (.cells zeros18 142)).heap.size = w.heap.size + 1 := by simp
  have hsz : (tagL 34 [t]).length ≤ 140737488354000 := by
    simp only [tagL, tagP, List.flatMap_cons, List.flatMap_nil, List.length_cons, List.length_append, data_len, be4_length, List.length_nil]
    omega
  have hF := rtag_parts 34 (.slice (some ⟨w.heap.size + 1, 0, none⟩) 1 1) [t] ((w.alloc (.cells zeros18 142)).alloc (.cells #[.string t] 9)) (by have := parts_new (w.alloc (.cells zeros18 142)) [t] 9; rw [hs1] at this; exact this) hsz (by simp)
  obtain ⟨ts, hTS⟩ : ∃ ts, tagS 34 [t] = ts := ⟨_, rfl⟩
  rw [show hashOf (tagL 34 [t]) = ts from hTS] at hF
  have hts : ts.size = 32 := by rw [← hTS]; exact tagS_size _ _
  have hhl : headL t = ts.data.toList := by rw [← hTS]; rfl
  rw [hhl]
  have hW2 := Box.mk (hW1.alloc (by simp) (.cells #[.string t] 9))
  replace hTS := Box.mk hTS
  clear hW1 hsz hhl
  go_enter Tryz.func115, Tryz.ntmps115
  go_wp2_with fail
  refine hF.mono ?_
  rintro e w3 ⟨rfl, hb3⟩
  clear hF
  have hB3 : Box (Below w.heap.size w w3) := ⟨hW2.out.trans (hb3.mono (by simp; omega))⟩
  have hR3 : Box (Blk w3 w.heap.size (dcell []) 142) := ⟨(hR1.out.alloc _).below hb3 (by simp; omega)⟩
  have hlt3 := hR3.out.lt
  obtain ⟨bd, hbd⟩ : ∃ bd, w3.heap.size = bd := ⟨_, rfl⟩
  have hbd2 : w.heap.size < bd := by omega
  have hD4 : Box (Blk (w3.alloc (.cells zeros18 142)) bd (dcell (digP ts.data.toList 0)) 142) := ⟨by rw [← hbd]; exact zeros18_blk w3⟩
  have hR4 : Box (Blk (w3.alloc (.cells zeros18 142)) w.heap.size (dcell []) 142) := ⟨hR3.out.alloc _⟩
  have hB4 : Box (Below w.heap.size w (w3.alloc (.cells zeros18 142))) := ⟨hB3.out.alloc hB3.out.size _⟩
  clear hb3 hR1 hW2 hR3 hB3 hlt3
  go_wp2_with fail
  replace hbd := Box.mk hbd
  go_loopw [5, 6] (fun c q wr => ∃ i : Nat, i ≤ 8 ∧ c = .int .i64 (lackN ts.data.toList i : Int) ∧ q = .int .i64 (i : Int) ∧ Box (Blk wr w.heap.size (dcell []) 142) ∧ Box (Blk wr bd (dcell (digP ts.data.toList i)) 142) ∧ Box (Below w.heap.size w wr)) (fun _ q _ => 8 - (intOf q).toNat)
  case atStart => exact ⟨0, by omega, rfl, rfl, hR4, hD4, hB4⟩
  case round =>
    clear hR4 hD4 hB4
    obtain ⟨i, hi8, rfl, rfl, hR, hD, hB⟩ := hrel
    have hck := lackN_le ts.data.toList i
    by_cases hlt : i < 8
    · have hix : i < ts.size := by omega
      obtain ⟨b, hb⟩ : ∃ b : Nat, lo ts.data.toList i = b := ⟨_, rfl⟩
      have hbl := lo_lt ts.data.toList i
      rw [hb] at hbl
      have hge : ((ts[i]'hix).toNat : Int) = (b : Int) := by rw [← hb, lo]; simp [List.getD, hix, ByteArray.getElem_eq_getElem_data]
      obtain ⟨q, hq⟩ : ∃ q, b / 16 = q := ⟨_, rfl⟩
      obtain ⟨r, hr⟩ : ∃ r, b % 16 = r := ⟨_, rfl⟩
      have hqr : q ≤ 15 ∧ r ≤ 15 := by omega
      obtain ⟨cc, hcc⟩ : ∃ cc, lackN ts.data.toList i = cc := ⟨_, rfl⟩
      have hnext : lackN ts.data.toList (i + 1) = cc + (15 - q + (15 - r)) := by rw [lackN, hcc, hb, hq, hr]
      have hbq : lo ts.data.toList i / 16 = q := by rw [hb]; exact hq
      have hbr : lo ts.data.toList i % 16 = r := by rw [hb]; exact hr
      have e3 : (b : Int) / 16 = (q : Int) := by omega
      have e4 : (b : Int) % 16 = (r : Int) := by omega
      have hfz := hD.out.free (2 * i)
      have hst := hD.out.cell (2 * i)
      rw [dcell_zero _ _ (by rw [digP_length]; omega) (by omega)] at hst
      have hD6 := hD.out.twoA (q := q) hlt
      have hfz1 := hD6.free (2 * i + 1)
      have hst1 := hD6.cell (2 * i + 1)
      rw [dcell_zero _ _ (by rw [List.length_append, digP_length]; simp) (by omega)] at hst1
      have hD2 := hD.out.two (q := q) (r := r) hlt hbq hbr
      have hg0 := hD2.cell (2 * i)
      have hg1 := hD2.cell (2 * i + 1)
      have hdl := digP_length ts.data.toList i
      have hx0 : (dcell (digP ts.data.toList (i + 1)))[2 * i]? = some (.int .i64 (q : Int)) := by
        rw [digP, hbq, hbr, dcell, List.getElem?_map, List.append_assoc, List.getElem?_append_right (by omega), hdl]; simp
      have hx1 : (dcell (digP ts.data.toList (i + 1)))[2 * i + 1]? = some (.int .i64 (r : Int)) := by
        rw [digP, hbq, hbr, dcell, List.getElem?_map, List.append_assoc, List.getElem?_append_right (by omega), hdl, show 2 * i + 1 - 2 * i = 1 by omega]; simp
      rw [hx0] at hg0
      rw [hx1] at hg1
      obtain ⟨w5, hw5⟩ : ∃ w5, (wr.setCell ⟨bd, 2 * i, none⟩ (.int .i64 (q : Int))).setCell ⟨bd, 2 * i + 1, none⟩ (.int .i64 (r : Int)) = w5 := ⟨_, rfl⟩
      have hR5 : Box (Blk w5 w.heap.size (dcell []) 142) := ⟨by rw [← hw5]; exact (hR.out.setCell_other _ _ (by simp; omega)).setCell_other _ _ (by simp; omega)⟩
      have hB5 : Box (Below w.heap.size w w5) := ⟨by rw [← hw5]; exact Below.setCell (B := w.heap.size) (Below.setCell (B := w.heap.size) hB.out (by simp; omega) _) (by simp; omega) _⟩
      rw [hw5] at hD2 hg0 hg1
      replace hD2 := Box.mk hD2
      replace hbq := Box.mk hbq
      replace hbr := Box.mk hbr
      replace hb := Box.mk hb
      replace hcc := Box.mk hcc
      replace hnext := Box.mk hnext
      rw [hcc.out] at hck ⊢
      clear hR hD hB hx0 hx1 hD6 hdl hq hr
      go_wp2_with fail
      go_quiet (fail)
      go_wp2_with fail
      have hm : 8 - (intOf (Value.int IntKind.i64 (↑i + 1))).toNat < 8 - (intOf (Value.int IntKind.i64 ↑i)).toNat := by simp [intOf]; omega
      exact ⟨⟨i + 1, by omega, by rw [hnext.out]; exact u_eq (by omega), by go_num, ⟨hR5.out.drewN nq⟩, ⟨hD2.out.drewN nq⟩, ⟨hB5.out.trans (Drawn.below ⟨nq, rfl⟩)⟩⟩, hm⟩
    · obtain rfl : i = 8 := by omega
      obtain ⟨cc, hcc⟩ : ∃ cc, lackN ts.data.toList 8 = cc := ⟨_, rfl⟩
      obtain ⟨q, hq⟩ : ∃ q, cc / 16 = q := ⟨_, rfl⟩
      obtain ⟨r, hr⟩ : ∃ r, cc % 16 = r := ⟨_, rfl⟩
      rw [hcc] at hck ⊢
      have e3 : (cc : Int) / 16 = (q : Int) := by omega
      have e4 : (cc : Int) % 16 = (r : Int) := by omega
      have hfz := hD.out.free 16
      have hst := hD.out.cell 16
      rw [dcell_zero _ _ (by rw [digP_length]; omega) (by omega)] at hst
      have hD6 := (hD.out.setCell 16 (.int .i64 (q : Int)))
      rw [dcell_push _ q 16 (digP_length _ 8) (by omega)] at hD6
      have hfz1 := hD6.free 17
      have hst1 := hD6.cell 17
      rw [dcell_zero _ _ (by rw [List.length_append, digP_length]; simp) (by omega)] at hst1
      have hD2 := Box.mk (hD.out.last (q := q) (r := r) (by rw [hcc]; exact hq) (by rw [hcc]; exact hr))
      obtain ⟨w5, hw5⟩ : ∃ w5, (wr.setCell ⟨bd, 16, none⟩ (.int .i64 (q : Int))).setCell ⟨bd, 17, none⟩ (.int .i64 (r : Int)) = w5 := ⟨_, rfl⟩
      have hR5 : Box (Blk w5 w.heap.size (dcell []) 142) := ⟨by rw [← hw5]; exact (hR.out.setCell_other _ _ (by simp; omega)).setCell_other _ _ (by simp; omega)⟩
      have hB5 : Box (Below w.heap.size w w5) := ⟨by rw [← hw5]; exact Below.setCell (B := w.heap.size) (Below.setCell (B := w.heap.size) hB.out (by simp; omega) _) (by simp; omega) _⟩
      rw [hw5] at hD2
      have hE : Box (Blk (w5.setRow w.heap.size (dcell (digs ts.data.toList)).toArray) w.heap.size (dcell (digs ts.data.toList)) 142) := ⟨setRow_blk hR5.out _⟩
      have hBe : Box (Below w.heap.size w (w5.setRow w.heap.size (dcell (digs ts.data.toList)).toArray)) := ⟨hB5.out.trans ((setRow_save _ _ _ _).below (Nat.le_refl _))⟩
      clear hD hR hB hq hr hD6 hcc
      go_wp2_with (first | (refine wpList_load_row rfl 142 (.tmp 4) rfl bd rfl 142 (dcell (digs ts.data.toList)).toArray (0, 0) _ hD2.out Tryz.underlying142 rfl info_d ?_) | (refine wpList_store_row rfl 142 (.tmp 2) (.tmp 50) rfl w.heap.size (dcell (digs ts.data.toList)).toArray rfl rfl 142 (dcell []).toArray hR5.out info_d rfl (dcell_one _) ?_))
      refine bodyPost_ret (v := .agg (dcell (digs ts.data.toList)).toArray) (results_cell_row (p := 2) rfl _ _ w.heap.size 142 (dcell (digs ts.data.toList)).toArray (0, 0) _ rfl hE.out Tryz.underlying142 rfl info_d) rfl ⟨rfl, hBe.out⟩
end Go.Proofs.YtiblkfkeifnpaaaGreatDoor

namespace Go.Proofs.YtiblkfkeifnpaaaGreatDoor
open Go Go.RowKit

theorem tag288 (q : ByteArray) (h : q.size = 288) : (tagL 35 [q]).length ≤ 140737488354000 := by
  simp only [tagL, tagP, List.flatMap_cons, List.flatMap_nil, List.length_cons, List.length_append, data_len, be4_length, List.length_nil, h]
  omega

set_option maxHeartbeats 800000 in
set_option maxRecDepth 100000 in
theorem rpublic_no (s : ByteArray) (n : Int) (w : World) (hn : n < 0 ∨ 65535 < n) :
    Calls Tryz.prog 66 #[.string s, .int .i64 n] w fun e w' => e = .returned (.tuple #[.string ⟨#[]⟩, .int .i64 1]) ∧ Below w.heap.size w w' := by
  have hB : Box (Below w.heap.size w w) := ⟨Below.refl _ _⟩
  rcases hn with hn | hn
  · go_enter Tryz.func66, Tryz.ntmps66
    go_wp2_with fail
    go_returns
    exact ⟨rfl, hB.out⟩
  · have hn0 : ¬ n < 0 := by omega
    go_enter Tryz.func66, Tryz.ntmps66
    go_wp2_with fail
    go_returns
    exact ⟨rfl, hB.out⟩
set_option maxHeartbeats 1600000 in
set_option maxRecDepth 100000 in
theorem rpublic_ok (s : ByteArray) (n : Nat) (w : World) (hn : n < 65536) (hs : s.size ≤ 140737488351232) :
    Calls Tryz.prog 66 #[.string s, .int .i64 (n : Int)] w fun e w' => e = .returned (.tuple #[.string (pubT s n), .int .i64 0]) ∧ Below w.heap.size w w' := by
  have hB0 : Box (Below w.heap.size w w) := ⟨Below.refl _ _⟩
  have hS := fun i w1 (hi : i < 256) => rsec_any s n i w1 hs hn hi
  have hL := fun i w1 (hi : i < 256) => rlinks_any (secV s n i) n i 0 15 w1 (secV_size s n i) hn hi (by omega)
  have hn0 : ¬ (n : Int) < 0 := by omega
  have hn1 : ¬ 65535 < (n : Int) := by omega
  replace hS := Box.mk hS
  replace hL := Box.mk hL
  go_enter Tryz.func66, Tryz.ntmps66
  go_wp2_with fail
  go_loopw [6, 7] (fun v q wr => ∃ k : Nat, k ≤ 18 ∧ v = .string (accT (endV s n) k) ∧ q = .int .i64 (k : Int) ∧ Box (Below w.heap.size w wr)) (fun _ q _ => 18 - (intOf q).toNat)
  case atStart => exact ⟨0, by omega, rfl, rfl, hB0⟩
  case round =>
    clear hB0
    obtain ⟨k, hk, rfl, rfl, hB⟩ := hrel
    by_cases hlt : k < 18
    · have hF := hS.out k wr (by omega)
      have hG := fun w1 => hL.out k w1 (by omega)
      have hnext := accT_succ (endV s n) k
      have hsz := accT_size (endV s n) (endV_size s n) k
      have hez := endV_size s n k
      obtain ⟨x, hx⟩ : ∃ x, secV s n k = x := ⟨_, rfl⟩
      rw [show linksV n k 0 15 (secV s n k) = endV s n k from rfl] at hG
      obtain ⟨y, hy⟩ : ∃ y, endV s n k = y := ⟨_, rfl⟩
      obtain ⟨u, hu⟩ : ∃ u, accT (endV s n) k = u := ⟨_, rfl⟩
      obtain ⟨v, hv⟩ : ∃ v, accT (endV s n) (k + 1) = v := ⟨_, rfl⟩
      rw [hx] at hF hG
      rw [hy] at hG hnext hez
      rw [hu, hv] at hnext
      rw [hu] at hsz
      rw [hu]
      replace hx := Box.mk hx
      replace hy := Box.mk hy
      replace hu := Box.mk hu
      replace hv := Box.mk hv
      go_wp2_with fail
      refine hF.mono ?_
      clear hF
      rintro e w1 ⟨rfl, hb1⟩
      have hB1 : Box (Below w.heap.size w w1) := ⟨hB.out.trans (hb1.mono hB.out.size)⟩
      clear hb1 hB
      go_wp2_with fail
      refine (hG w1).mono ?_
      clear hG
      rintro e w2 ⟨rfl, hb2⟩
      have hB2 : Box (Below w.heap.size w w2) := ⟨hB1.out.trans (hb2.mono hB1.out.size)⟩
      clear hb2 hB1
      go_wp2_with fail
      have hm : 18 - (intOf (Value.int IntKind.i64 (↑k + 1))).toNat < 18 - (intOf (Value.int IntKind.i64 ↑k)).toNat := by simp [intOf]; omega
      exact ⟨⟨k + 1, by omega, by rw [hv.out], by go_num, hB2⟩, hm⟩
    · obtain rfl : k = 18 := by omega
      have hsz := accT_size (endV s n) (endV_size s n) 18
      obtain ⟨u, hu⟩ : ∃ u, accT (endV s n) 18 = u := ⟨_, rfl⟩
      rw [hu] at hsz
      have hF := rtag_parts 35 (.slice (some ⟨wr.heap.size, 0, none⟩) 1 1) [u] (wr.alloc (.cells #[.string u] 9)) (parts_new wr [u] 9) (tag288 u hsz) (by simp)
      rw [show hashOf (tagL 35 [u]) = pubT s n by rw [← hu]; rfl] at hF
      have hB1 : Box (Below w.heap.size w (wr.alloc (.cells #[.string u] 9))) := ⟨hB.out.alloc hB.out.size _⟩
      rw [hu]
      replace hu := Box.mk hu
      clear hS hL hB
      go_wp2_with fail
      refine hF.mono ?_
      clear hF
      rintro e w2 ⟨rfl, hb2⟩
      have hB2 : Box (Below w.heap.size w w2) := ⟨hB1.out.trans (hb2.mono hB1.out.size)⟩
      clear hb2 hB1
      go_wp2_with fail
      go_returns
      exact ⟨rfl, hB2.out⟩

set_option maxHeartbeats 1600000 in
set_option maxRecDepth 100000 in
theorem rsign_ok (s t : ByteArray) (n : Nat) (w : World) (hn : n < 65536) (hs : s.size ≤ 140737488351232) (ht : t.size ≤ 140737488351232) :
    Calls Tryz.prog 69 #[.string s, .int .i64 (n : Int), .string t] w fun e w' => e = .returned (.tuple #[.string (sigT s n t), .int .i64 0]) ∧ Below w.heap.size w w' := by
  have hD := rdigits_any t w ht
  have hS := fun i w1 (hi : i < 256) => rsec_any s n i w1 hs hn hi
  have hL := fun i w1 (hi : i < 256) => rlinks_any (secV s n i) n i 0 (dig (headL t) i) w1 (secV_size s n i) hn hi (by have := dig_le (headL t) i; omega)
  have hn0 : ¬ (n : Int) < 0 := by omega
  have hn1 : ¬ 65535 < (n : Int) := by omega
  have hV := fun w => digits_var w t
  have hdi := dig_info t
  have hds := dig_size t
  have hdc : ∀ i, i < 18 → (dcell (digs (headL t)))[i]? = some (.int .i64 (dig (headL t) i : Int)) := fun i hi => dcell_get _ (digs_length _) i hi
  obtain ⟨dg, hdd⟩ : ∃ dg, digs (headL t) = dg := ⟨_, rfl⟩
  rw [hdd] at hD hV hdi hds hdc
  replace hdd := Box.mk hdd
  replace hV := Box.mk hV
  replace hS := Box.mk hS
  replace hL := Box.mk hL
  replace hdc := Box.mk hdc
  go_enter Tryz.func69, Tryz.ntmps69
  go_wp2_with fail
  refine hD.mono ?_
  clear hD
  rintro e w2 ⟨rfl, hb2⟩
  obtain ⟨q1, q2⟩ := hV.out w2
  have hZ : Box (Blk (w2.alloc (.cells zeros18 142)) w2.heap.size (dcell []) 142) := ⟨zeros18_blk w2⟩
  have hb3 : Below w.heap.size w ((w2.alloc (.cells zeros18 142)).setRow w2.heap.size (dcell dg).toArray) := hb2.trans (q1.mono hb2.size)
  have hB3 : Box (Below w.heap.size w ((w2.alloc (.cells zeros18 142)).setRow w2.heap.size (dcell dg).toArray)) := ⟨hb3⟩
  have hQ3 := Box.mk q2
  obtain ⟨bd, hbd⟩ : ∃ bd, w2.heap.size = bd := ⟨_, rfl⟩
  rw [hbd] at hZ hB3 hQ3
  have hbw : Box (w.heap.size ≤ bd) := ⟨by have := hb2.size; omega⟩
  clear hV q1 q2 hb2 hb3
  go_wp2_with (refine wpList_store_row rfl 142 (.tmp 8) (.tmp 18) rfl bd (dcell dg).toArray rfl rfl 142 zeros18 hZ.out hdi hds (dcell_one _) ?_)
  replace hbd := Box.mk hbd
  clear hZ
  go_loopw [9, 10] (fun v q wr => ∃ k : Nat, k ≤ 18 ∧ v = .string (accT (sigV s n t) k) ∧ q = .int .i64 (k : Int) ∧ Box (Blk wr bd (dcell dg) 142) ∧ Box (Below w.heap.size w wr)) (fun _ q _ => 18 - (intOf q).toNat)
  case atStart => exact ⟨0, by omega, rfl, rfl, hQ3, hB3⟩
  case round =>
    clear hQ3 hB3
    obtain ⟨k, hk, rfl, rfl, hQ, hB⟩ := hrel
    by_cases hlt : k < 18
    · have hF := hS.out k wr.drew (by omega)
      have hG := fun w1 => hL.out k w1 (by omega)
      have hnext := accT_succ (sigV s n t) k
      have hsz := accT_size (sigV s n t) (sigV_size s n t) k
      have hez := sigV_size s n t k
      have c3 := hQ.out.cell k
      rw [hdc.out k hlt] at c3
      have hdl := dig_le (headL t) k
      obtain ⟨x, hx⟩ : ∃ x, secV s n k = x := ⟨_, rfl⟩
      rw [show linksV n k 0 (dig (headL t) k) (secV s n k) = sigV s n t k from rfl, Nat.zero_add] at hG
      obtain ⟨y, hy⟩ : ∃ y, sigV s n t k = y := ⟨_, rfl⟩
      obtain ⟨u, hu⟩ : ∃ u, accT (sigV s n t) k = u := ⟨_, rfl⟩
      obtain ⟨v, hv⟩ : ∃ v, accT (sigV s n t) (k + 1) = v := ⟨_, rfl⟩
      obtain ⟨d, hd⟩ : ∃ d, dig (headL t) k = d := ⟨_, rfl⟩
      rw [hx] at hF hG
      rw [hy] at hG hnext hez
      rw [hd] at hG c3 hdl
      rw [hu, hv] at hnext
      rw [hu] at hsz
      rw [hu]
      replace hx := Box.mk hx
      replace hy := Box.mk hy
      replace hu := Box.mk hu
      replace hv := Box.mk hv
      replace hd := Box.mk hd
      have hl3 := hQ.out.lt
      have d3 : wr.drew.cell? ⟨bd, k, none⟩ = some (.int .i64 (d : Int)) := c3
      go_wp2_with fail
      refine region_go (C := fun w' => w'.cell? ⟨bd, k, none⟩ = some (.int .i64 (d : Int))) rfl ?_
      refine go_calms [0, 1, 2, 3, 4, 5, 6, 7, 8] 4 rfl (by kernel_rfl) (by kernel_rfl) (by kernel_rfl) d3 ?_
      simp [nth]
      try simp only [Act.put]
      repeat (go_big_quiet_step (first | exact fun _ => rfl | rfl))
      refine quiet_any rfl (.int .i64 (d : Int)) (fun w' hw' => by go_simp) ?_
      simp only [Act.put, List.setIfInBounds_toArray, List.set_cons_succ, List.set_cons_zero]
      repeat (go_big_quiet_step (first | exact fun _ => rfl | rfl))
      refine wpQuiet_nil ?_
      have hBd : Box (Below w.heap.size w wr.drew) := ⟨hB.out.trans (Drawn.below ⟨1, rfl⟩)⟩
      have hQd : Box (Blk wr.drew bd (dcell dg) 142) := ⟨hQ.out.drewN 1⟩
      refine go_forced 9 (by kernel_rfl) (goOp_wp 9 rfl rfl (fun K hK => ?_))
      go_simp
      refine hF.mono ?_
      rintro e w1 ⟨rfl, hb1⟩
      have hB1 : Box (Below w.heap.size w w1) := ⟨hBd.out.trans (hb1.mono hBd.out.size)⟩
      have hQ1 : Box (Blk w1 bd (dcell dg) 142) := ⟨hQd.out.below hb1 hQd.out.lt⟩
      have d1 : w1.cell? ⟨bd, k, none⟩ = some (.int .i64 (d : Int)) := (hb1.cell (p := ⟨bd, k, none⟩) hQd.out.lt).trans d3
      refine hK _ _ d1 ?_
      clear hK K hF
      have hH := hG w1
      clear hG
      refine go_forced 10 (by kernel_rfl) (goOp_wp 10 rfl rfl (fun K hK => ?_))
      go_simp
      refine hH.mono ?_
      rintro e w2 ⟨rfl, hb2⟩
      have hB2 : Box (Below w.heap.size w w2) := ⟨hB1.out.trans (hb2.mono hB1.out.size)⟩
      have hQ2 : Box (Blk w2 bd (dcell dg) 142) := ⟨hQ1.out.below hb2 hQ1.out.lt⟩
      have d2 : w2.cell? ⟨bd, k, none⟩ = some (.int .i64 (d : Int)) := (hb2.cell (p := ⟨bd, k, none⟩) hQ1.out.lt).trans d1
      refine hK _ _ d2 ?_
      clear hK K hH hb1 hb2 hB hBd hB1 hQd hQ1 c3 d3 d1
      refine go_calms [11, 12] 0 rfl (by kernel_rfl) (by kernel_rfl) (by kernel_rfl) d2 ?_
      simp [nth]
      try simp only [Act.put]
      repeat (go_big_quiet_step (first | exact fun _ => rfl | rfl))
      refine wpQuiet_nil ?_
      refine go_done (by kernel_rfl) ?_
      go_simp
      go_wp2_with fail
      have hm : 18 - (intOf (Value.int IntKind.i64 (↑k + 1))).toNat < 18 - (intOf (Value.int IntKind.i64 ↑k)).toNat := by simp [intOf]; omega
      exact ⟨⟨k + 1, by omega, by rw [hv.out], by go_num, hQ2, hB2⟩, hm⟩
    · obtain rfl : k = 18 := by omega
      go_wp2_with fail
      go_returns
      exact ⟨rfl, hB.out⟩

set_option maxHeartbeats 1600000 in
set_option maxRecDepth 100000 in
theorem rrecover_ok (t q : ByteArray) (n : Nat) (w : World) (hn : n < 65536) (hq : q.size = 288) (ht : t.size ≤ 140737488351232) :
    Calls Tryz.prog 144 #[.int .i64 (n : Int), .string t, .string q] w fun e w' => e = .returned (.tuple #[.string (recT n t q), .int .i64 0]) ∧ Below w.heap.size w w' := by
  have hD := rdigits_any t w ht
  have hL := fun i w1 (hi : i < 18) => rlinks_any (q.extract (16 * i) (16 * i + 16)) n i (dig (headL t) i) (15 - dig (headL t) i) w1 (cut_size q i hq hi) hn (by omega) (by have := dig_le (headL t) i; omega)
  have hrz : ∀ i, i < 18 → (recV n t q i).size = 16 := fun i hi => linksV_size _ _ _ _ (cut_size q i hq hi) _
  have hac : ∀ k, k ≤ 18 → (accT (recV n t q) k).size = 16 * k := fun k hk => by
    rw [show accT (recV n t q) k = accT (fun i => if i < 18 then recV n t q i else secV t n i) k from accT_congr k fun i hi => (if_pos (by omega)).symm]
    refine accT_size _ (fun i => ?_) k
    show (if i < 18 then recV n t q i else secV t n i).size = 16
    split
    · exact hrz i (by assumption)
    · exact secV_size _ _ _
  have hn0 : ¬ (n : Int) < 0 := by omega
  have hn1 : ¬ 65535 < (n : Int) := by omega
  have hV := fun w => digits_var w t
  have hdi := dig_info t
  have hds := dig_size t
  have hdc : ∀ i, i < 18 → (dcell (digs (headL t)))[i]? = some (.int .i64 (dig (headL t) i : Int)) := fun i hi => dcell_get _ (digs_length _) i hi
  obtain ⟨dg, hdd⟩ : ∃ dg, digs (headL t) = dg := ⟨_, rfl⟩
  rw [hdd] at hD hV hdi hds hdc
  replace hdd := Box.mk hdd
  replace hV := Box.mk hV
  replace hL := Box.mk hL
  replace hdc := Box.mk hdc
  replace hrz := Box.mk hrz
  replace hac := Box.mk hac
  go_enter Tryz.func144, Tryz.ntmps144
  go_wp2_with fail
  refine hD.mono ?_
  clear hD
  rintro e w2 ⟨rfl, hb2⟩
  obtain ⟨q1, q2⟩ := hV.out w2
  have hZ : Box (Blk (w2.alloc (.cells zeros18 142)) w2.heap.size (dcell []) 142) := ⟨zeros18_blk w2⟩
  have hb3 : Below w.heap.size w ((w2.alloc (.cells zeros18 142)).setRow w2.heap.size (dcell dg).toArray) := hb2.trans (q1.mono hb2.size)
  have hB3 : Box (Below w.heap.size w ((w2.alloc (.cells zeros18 142)).setRow w2.heap.size (dcell dg).toArray)) := ⟨hb3⟩
  have hQ3 := Box.mk q2
  obtain ⟨bd, hbd⟩ : ∃ bd, w2.heap.size = bd := ⟨_, rfl⟩
  rw [hbd] at hZ hB3 hQ3
  clear hV q1 q2 hb2 hb3
  go_wp2_with (refine wpList_store_row rfl 142 (.tmp 8) (.tmp 21) rfl bd (dcell dg).toArray rfl rfl 142 zeros18 hZ.out hdi hds (dcell_one _) ?_)
  replace hbd := Box.mk hbd
  clear hZ
  go_loopw [9, 10] (fun v q' wr => ∃ k : Nat, k ≤ 18 ∧ v = .string (accT (recV n t q) k) ∧ q' = .int .i64 (k : Int) ∧ Box (Blk wr bd (dcell dg) 142) ∧ Box (Below w.heap.size w wr)) (fun _ q' _ => 18 - (intOf q').toNat)
  case atStart => exact ⟨0, by omega, rfl, rfl, hQ3, hB3⟩
  case round =>
    clear hQ3 hB3
    obtain ⟨k, hk, rfl, rfl, hQ, hB⟩ := hrel
    by_cases hlt : k < 18
    · have hG := hL.out k wr.drew hlt
      have hnext := accT_succ (recV n t q) k
      have hsz := hac.out k hk
      have hez := hrz.out k hlt
      have c3 := hQ.out.cell k
      rw [hdc.out k hlt] at c3
      have hdl := dig_le (headL t) k
      have hcz := cut_size q k hq hlt
      rw [show linksV n k (dig (headL t) k) (15 - dig (headL t) k) (q.extract (16 * k) (16 * k + 16)) = recV n t q k from rfl, show dig (headL t) k + (15 - dig (headL t) k) = 15 by omega] at hG
      obtain ⟨x, hx⟩ : ∃ x, q.extract (16 * k) (16 * k + 16) = x := ⟨_, rfl⟩
      obtain ⟨y, hy⟩ : ∃ y, recV n t q k = y := ⟨_, rfl⟩
      obtain ⟨u, hu⟩ : ∃ u, accT (recV n t q) k = u := ⟨_, rfl⟩
      obtain ⟨v, hv⟩ : ∃ v, accT (recV n t q) (k + 1) = v := ⟨_, rfl⟩
      obtain ⟨d, hd⟩ : ∃ d, dig (headL t) k = d := ⟨_, rfl⟩
      rw [hx] at hG hcz
      rw [hy] at hG hnext hez
      rw [hd] at hG c3 hdl
      rw [hu, hv] at hnext
      rw [hu] at hsz
      rw [hu]
      have e1 : ((16 : Int) * (k : Int)).toNat = 16 * k := by omega
      have e2 : ((16 : Int) * (k : Int) + 16).toNat = 16 * k + 16 := by omega
      replace hy := Box.mk hy
      replace hu := Box.mk hu
      replace hv := Box.mk hv
      replace hd := Box.mk hd
      have hl3 := hQ.out.lt
      have d3 : wr.drew.cell? ⟨bd, k, none⟩ = some (.int .i64 (d : Int)) := c3
      go_wp2_with fail
      refine region_go (C := fun w' => w'.cell? ⟨bd, k, none⟩ = some (.int .i64 (d : Int))) rfl ?_
      refine go_calms [0, 1, 2, 3, 4, 5, 6, 7, 8, 9, 10, 11, 12] 3 rfl (by kernel_rfl) (by kernel_rfl) (by kernel_rfl) d3 ?_
      simp [nth]
      try simp only [Act.put]
      repeat (go_big_quiet_step (first | exact fun _ => rfl | rfl))
      refine quiet_any rfl (.int .i64 (d : Int)) (fun w' hw' => by go_simp) ?_
      simp only [Act.put, List.setIfInBounds_toArray, List.set_cons_succ, List.set_cons_zero]
      repeat (go_big_quiet_step (first | exact fun _ => rfl | rfl))
      refine wpQuiet_nil ?_
      have hBd : Box (Below w.heap.size w wr.drew) := ⟨hB.out.trans (Drawn.below ⟨1, rfl⟩)⟩
      have hQd : Box (Blk wr.drew bd (dcell dg) 142) := ⟨hQ.out.drewN 1⟩
      refine go_forced 13 (by kernel_rfl) (goOp_wp 13 rfl rfl (fun K hK => ?_))
      go_simp
      refine hG.mono ?_
      rintro e w2 ⟨rfl, hb2⟩
      have hB2 : Box (Below w.heap.size w w2) := ⟨hBd.out.trans (hb2.mono hBd.out.size)⟩
      have hQ2 : Box (Blk w2 bd (dcell dg) 142) := ⟨hQd.out.below hb2 hQd.out.lt⟩
      have d2 : w2.cell? ⟨bd, k, none⟩ = some (.int .i64 (d : Int)) := (hb2.cell (p := ⟨bd, k, none⟩) hQd.out.lt).trans d3
      refine hK _ _ d2 ?_
      clear hK K hG hb2 hB hBd hQd c3 d3
      refine go_calms [14, 15] 0 rfl (by kernel_rfl) (by kernel_rfl) (by kernel_rfl) d2 ?_
      simp [nth]
      try simp only [Act.put]
      repeat (go_big_quiet_step (first | exact fun _ => rfl | rfl))
      refine wpQuiet_nil ?_
      refine go_done (by kernel_rfl) ?_
      go_simp
      go_wp2_with fail
      have hm : 18 - (intOf (Value.int IntKind.i64 (↑k + 1))).toNat < 18 - (intOf (Value.int IntKind.i64 ↑k)).toNat := by simp [intOf]; omega
      exact ⟨⟨k + 1, by omega, by rw [hv.out], by go_num, hQ2, hB2⟩, hm⟩
    · obtain rfl : k = 18 := by omega
      have hsz := hac.out 18 hk
      obtain ⟨u, hu⟩ : ∃ u, accT (recV n t q) 18 = u := ⟨_, rfl⟩
      rw [hu] at hsz
      have hF := rtag_parts 35 (.slice (some ⟨wr.heap.size, 0, none⟩) 1 1) [u] (wr.alloc (.cells #[.string u] 9)) (parts_new wr [u] 9) (tag288 u hsz) (by simp)
      rw [show hashOf (tagL 35 [u]) = recT n t q by rw [← hu]; rfl] at hF
      have hB1 : Box (Below w.heap.size w (wr.alloc (.cells #[.string u] 9))) := ⟨hB.out.alloc hB.out.size _⟩
      rw [hu]
      replace hu := Box.mk hu
      clear hL hB hQ
      go_wp2_with fail
      refine hF.mono ?_
      clear hF
      rintro e w2 ⟨rfl, hb2⟩
      have hB2 : Box (Below w.heap.size w w2) := ⟨hB1.out.trans (hb2.mono hB1.out.size)⟩
      clear hb2 hB1
      go_wp2_with fail
      go_returns
      exact ⟨rfl, hB2.out⟩
end Go.Proofs.YtiblkfkeifnpaaaGreatDoor
