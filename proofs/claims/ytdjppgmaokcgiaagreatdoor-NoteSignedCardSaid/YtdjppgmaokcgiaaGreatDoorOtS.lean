/- Walks of the document's Number, secret and links. -/
import Derived.Test.YtdjppgmaokcgiaaGreatDoorOtP
import Derived.Test.YtdjppgmaokcgiaaGreatDoorOtE
import Derived.Test.YtdjppgmaokcgiaaGreatDoorQg
namespace Go.Proofs.YtdjppgmaokcgiaaGreatDoor
open Go Go.RowKit

theorem go_fork3 {P : Program} {md : Region.Mode} {ops : Array Oper} {C : World → Prop} {Q : Act → World → Prop} {fuel : Nat} {listed : Array Bool} {a : Act} {w : World} (i j k : Nat) (hr : Region.ready md ops listed = [i, j, k]) (hi : goOp P ops i (fun a' w' => C w' ∧ anyGo P md ops C Q fuel (listed.setIfInBounds i true) a' w') a w)
    (hj : goOp P ops j (fun a' w' => C w' ∧ anyGo P md ops C Q fuel (listed.setIfInBounds j true) a' w') a w)
    (hk : goOp P ops k (fun a' w' => C w' ∧ anyGo P md ops C Q fuel (listed.setIfInBounds k true) a' w') a w) : anyGo P md ops C Q (fuel + 1) listed a w := by
  refine ⟨fun h1 => (by rw [hr] at h1; cases h1), fun m hm => ?_⟩
  rw [hr] at hm
  obtain rfl | rfl | rfl : m = i ∨ m = j ∨ m = k := by simpa using hm
  · exact hi
  · exact hj
  · exact hk
theorem beN_two (n : Nat) : beN n 2 = [UInt8.ofNat (n / 256), UInt8.ofNat n] := by
  have h : ∀ m : Nat, UInt8.ofNat (m % 256) = UInt8.ofNat m := fun m => by
    apply UInt8.toNat_inj.1
    rw [UInt8.toNat_ofNat', UInt8.toNat_ofNat']; omega
  simp [beN, h]

set_option maxHeartbeats 800000 in
set_option maxRecDepth 100000 in
theorem rnumber_any (n : Nat) (w : World) :
    Calls Tryz.prog 23 #[.int .u64 (n : Int), .int .i64 2] w fun e w' => e = .returned (.string (by2 n)) ∧ Below w.heap.size w w' := by
  have hN : Calls Tryz.prog 43 #[.slice none 0 0, .int .u64 (n : Int), .int .i64 2] w _ := number_any w.heap.size w w (.slice none 0 0) [] n 2 (by omega) ⟨World.ownsRow_nil _ _ _ _⟩ ⟨Below.refl _ _⟩ (Nat.le_refl _) (by simp)
  rw [List.nil_append, beN_two] at hN
  go_enter Tryz.func23, Tryz.ntmps23
  go_wp2_with fail
  refine hN.mono ?_
  clear hN
  rintro e w1 ⟨v1, rfl, hO, hB, _, b1, n1, c1, rfl⟩
  have hcv := own_text hO.out
  rw [show (⟨[UInt8.ofNat (n / 256), UInt8.ofNat n].toArray⟩ : ByteArray) = by2 n from rfl] at hcv
  clear hO
  go_wp2_with fail
  go_ret
  exact ⟨rfl, hB.out⟩

set_option maxHeartbeats 3200000 in
set_option maxRecDepth 100000 in
theorem rsec_any (s : ByteArray) (n i : Nat) (w : World) (hs : s.size ≤ 140737488351232) (hn : n < 65536) (hi : i < 256) :
    Calls Tryz.prog 42 #[.string s, .int .i64 (n : Int), .int .i64 (i : Int)] w fun e w' => e = .returned (.string (secV s n i)) ∧ Below w.heap.size w w' := by
  have hNum := fun w => rnumber_any n w
  have hsz : (tagL 32 [s, by2 n, by1 i]).length ≤ 140737488354000 := by
    have h2 : (by2 n).size = 2 := rfl
    have h1 : (by1 i).size = 1 := rfl
    simp only [tagL, tagP, List.flatMap_cons, List.flatMap_nil, List.length_cons, List.length_append, data_len, be4_length, List.length_nil, h1, h2]
    omega
  have hts := tagS_size 32 [s, by2 n, by1 i]
  have hval : (tagS 32 [s, by2 n, by1 i]).extract 0 16 = secV s n i := rfl
  obtain ⟨ts, hTS⟩ : ∃ ts, tagS 32 [s, by2 n, by1 i] = ts := ⟨_, rfl⟩
  have hTg := fun w1 => rtag_parts 32 (.slice (some ⟨w1.heap.size, 0, none⟩) 3 3) [s, by2 n, by1 i] (w1.alloc (.cells #[.string s, .string (by2 n), .string (by1 i)] 9)) (parts_new w1 [s, by2 n, by1 i] 9) hsz (by simp)
  rw [show hashOf (tagL 32 [s, by2 n, by1 i]) = ts from hTS] at hTg
  rw [hTS] at hts hval
  obtain ⟨x, hx⟩ : ∃ x, UInt8.ofNat i = x := ⟨_, rfl⟩
  have hv : (i : Int) = (x.toNat : Int) := by rw [← hx, UInt8.toNat_ofNat']; omega
  have hxl : x.toNat < 256 := x.toNat_lt
  rw [show by1 i = one x by rw [by1, hx]] at hTg
  obtain ⟨y, hy⟩ : ∃ y, secV s n i = y := ⟨_, rfl⟩
  rw [hy] at hval ⊢
  rw [hv]
  have hBd : Box (Below w.heap.size w w.drew) := ⟨Drawn.below ⟨1, rfl⟩⟩
  replace hy := Box.mk hy
  clear hsz hTS hx hv
  go_enter Tryz.func42, Tryz.ntmps42
  go_wp2_with fail
  refine region_go (C := fun _ => True) rfl ?_
  generalize w.drew = wd at hBd ⊢
  refine go_calms [0, 1, 2, 4, 5] 7 rfl (by kernel_rfl) (by kernel_rfl) (by kernel_rfl) True.intro ?_
  simp [nth]
  try simp only [Act.put]
  repeat (go_big_quiet_step (first | exact fun _ => rfl | rfl))
  refine wpQuiet_nil ?_
  refine go_fork 3 6 (by kernel_rfl) (goOp_wp 3 rfl rfl (fun K hK => ?_)) (goOp_wp 6 rfl rfl (fun K hK => ?_))
  · go_simp
    refine (hNum wd).mono ?_
    rintro e w1 ⟨rfl, hb1⟩
    refine hK _ _ True.intro ?_
    clear hK K
    have hB1 : Box (Below w.heap.size w w1) := ⟨hBd.out.trans (hb1.mono hBd.out.size)⟩
    clear hb1 hBd
    refine go_forced 6 (by kernel_rfl) (goOp_wp 6 rfl rfl (fun K hK => ?_))
    go_simp
    refine hK _ _ True.intro ?_
    clear hK K
    have hB2 : Box (Below w.heap.size w (w1.alloc (.cells #[Value.int .u8 (x.toNat : Int)] 5))) := ⟨hB1.out.alloc hB1.out.size _⟩
    have hO1_2 := Box.mk (own_one w1 x)
    clear hB1
    obtain ⟨a2, ha2⟩ : ∃ a, w1.heap.size = a := ⟨_, rfl⟩
    rw [ha2] at hO1_2 ⊢
    generalize w1.alloc (.cells #[Value.int .u8 (x.toNat : Int)] 5) = w2 at hB2 hO1_2 ⊢
    clear ha2
    refine go_forced 7 (by kernel_rfl) (goOp_wp 7 rfl rfl (fun K hK => ?_))
    have hcv3 := own_text hO1_2.out
    rw [show (⟨[x].toArray⟩ : ByteArray) = one x from rfl] at hcv3
    go_simp
    refine hK _ _ True.intro ?_
    clear hK K hcv3 hO1_2
    refine go_forced 8 (by kernel_rfl) (goOp_wp 8 rfl rfl (fun K hK => ?_))
    go_simp
    refine hK _ _ True.intro ?_
    clear hK K
    have hF := hTg w2
    have hBt : Box (Below w.heap.size w (w2.alloc (.cells #[.string s, .string (by2 n), .string (one x)] 9))) := ⟨hB2.out.alloc hB2.out.size _⟩
    clear hTg hB2 hNum
    refine go_forced 9 (by kernel_rfl) (goOp_wp 9 rfl rfl (fun K hK => ?_))
    go_simp
    refine hF.mono ?_
    rintro e we ⟨rfl, hbe⟩
    refine hK _ _ True.intro ?_
    clear hK K hF
    have hBe : Box (Below w.heap.size w we) := ⟨hBt.out.trans (hbe.mono hBt.out.size)⟩
    clear hBt hbe
    refine go_calms [10, 11] 0 rfl (by kernel_rfl) (by kernel_rfl) (by kernel_rfl) True.intro ?_
    simp [nth]
    try simp only [Act.put]
    repeat (go_big_quiet_step (first | exact fun _ => rfl | rfl))
    refine wpQuiet_nil ?_
    refine go_done (by kernel_rfl) ?_
    go_simp
    go_wp2_with fail
    go_ret
    exact ⟨rfl, hBe.out⟩
  · go_simp
    refine hK _ _ True.intro ?_
    clear hK K
    have hB4 : Box (Below w.heap.size w (wd.alloc (.cells #[Value.int .u8 (x.toNat : Int)] 5))) := ⟨hBd.out.alloc hBd.out.size _⟩
    have hO1_4 := Box.mk (own_one wd x)
    clear hBd
    obtain ⟨a4, ha4⟩ : ∃ a, wd.heap.size = a := ⟨_, rfl⟩
    rw [ha4] at hO1_4 ⊢
    generalize wd.alloc (.cells #[Value.int .u8 (x.toNat : Int)] 5) = w4 at hB4 hO1_4 ⊢
    clear ha4
    refine go_fork 3 7 (by kernel_rfl) (goOp_wp 3 rfl rfl (fun K hK => ?_)) (goOp_wp 7 rfl rfl (fun K hK => ?_))
    · go_simp
      refine (hNum w4).mono ?_
      rintro e w5 ⟨rfl, hb5⟩
      refine hK _ _ True.intro ?_
      clear hK K
      have hB5 : Box (Below w.heap.size w w5) := ⟨hB4.out.trans (hb5.mono hB4.out.size)⟩
      have hO1_5 := Box.mk (ownsRow_below hO1_4.out hb5)
      clear hb5 hB4 hO1_4
      refine go_forced 7 (by kernel_rfl) (goOp_wp 7 rfl rfl (fun K hK => ?_))
      have hcv6 := own_text hO1_5.out
      rw [show (⟨[x].toArray⟩ : ByteArray) = one x from rfl] at hcv6
      go_simp
      refine hK _ _ True.intro ?_
      clear hK K hcv6 hO1_5
      refine go_forced 8 (by kernel_rfl) (goOp_wp 8 rfl rfl (fun K hK => ?_))
      go_simp
      refine hK _ _ True.intro ?_
      clear hK K
      have hF := hTg w5
      have hBt : Box (Below w.heap.size w (w5.alloc (.cells #[.string s, .string (by2 n), .string (one x)] 9))) := ⟨hB5.out.alloc hB5.out.size _⟩
      clear hTg hB5 hNum
      refine go_forced 9 (by kernel_rfl) (goOp_wp 9 rfl rfl (fun K hK => ?_))
      go_simp
      refine hF.mono ?_
      rintro e we ⟨rfl, hbe⟩
      refine hK _ _ True.intro ?_
      clear hK K hF
      have hBe : Box (Below w.heap.size w we) := ⟨hBt.out.trans (hbe.mono hBt.out.size)⟩
      clear hBt hbe
      refine go_calms [10, 11] 0 rfl (by kernel_rfl) (by kernel_rfl) (by kernel_rfl) True.intro ?_
      simp [nth]
      try simp only [Act.put]
      repeat (go_big_quiet_step (first | exact fun _ => rfl | rfl))
      refine wpQuiet_nil ?_
      refine go_done (by kernel_rfl) ?_
      go_simp
      go_wp2_with fail
      go_ret
      exact ⟨rfl, hBe.out⟩
    · have hcv7 := own_text hO1_4.out
      rw [show (⟨[x].toArray⟩ : ByteArray) = one x from rfl] at hcv7
      go_simp
      refine hK _ _ True.intro ?_
      clear hK K hcv7 hO1_4
      refine go_forced 3 (by kernel_rfl) (goOp_wp 3 rfl rfl (fun K hK => ?_))
      go_simp
      refine (hNum w4).mono ?_
      rintro e w8 ⟨rfl, hb8⟩
      refine hK _ _ True.intro ?_
      clear hK K
      have hB8 : Box (Below w.heap.size w w8) := ⟨hB4.out.trans (hb8.mono hB4.out.size)⟩
      clear hb8 hB4
      refine go_forced 8 (by kernel_rfl) (goOp_wp 8 rfl rfl (fun K hK => ?_))
      go_simp
      refine hK _ _ True.intro ?_
      clear hK K
      have hF := hTg w8
      have hBt : Box (Below w.heap.size w (w8.alloc (.cells #[.string s, .string (by2 n), .string (one x)] 9))) := ⟨hB8.out.alloc hB8.out.size _⟩
      clear hTg hB8 hNum
      refine go_forced 9 (by kernel_rfl) (goOp_wp 9 rfl rfl (fun K hK => ?_))
      go_simp
      refine hF.mono ?_
      rintro e we ⟨rfl, hbe⟩
      refine hK _ _ True.intro ?_
      clear hK K hF
      have hBe : Box (Below w.heap.size w we) := ⟨hBt.out.trans (hbe.mono hBt.out.size)⟩
      clear hBt hbe
      refine go_calms [10, 11] 0 rfl (by kernel_rfl) (by kernel_rfl) (by kernel_rfl) True.intro ?_
      simp [nth]
      try simp only [Act.put]
      repeat (go_big_quiet_step (first | exact fun _ => rfl | rfl))
      refine wpQuiet_nil ?_
      refine go_done (by kernel_rfl) ?_
      go_simp
      go_wp2_with fail
      go_ret
      exact ⟨rfl, hBe.out⟩

set_option maxHeartbeats 12800000 in
set_option maxRecDepth 100000 in
theorem rlinks_any (s : ByteArray) (n i a c : Nat) (w : World) (hs : s.size = 16) (hn : n < 65536) (hi : i < 256) (hac : a + c ≤ 15) :
    Calls Tryz.prog 41 #[.int .i64 (n : Int), .int .i64 (i : Int), .int .i64 (a : Int), .int .i64 ((a + c : Nat) : Int), .string s] w fun e w' => e = .returned (.string (linksV n i a c s)) ∧ Below w.heap.size w w' := by
  obtain ⟨b, hb⟩ : ∃ b, a + c = b := ⟨_, rfl⟩
  rw [hb]
  have hNum := fun w => rnumber_any n w
  have hB0 : Box (Below w.heap.size w w) := ⟨Below.refl _ _⟩
  obtain ⟨x, hx⟩ : ∃ x, UInt8.ofNat i = x := ⟨_, rfl⟩
  have hv : (i : Int) = (x.toNat : Int) := by rw [← hx, UInt8.toNat_ofNat']; omega
  have hxl : x.toNat < 256 := x.toNat_lt
  have hbx : by1 i = one x := by rw [by1, hx]
  rw [hv]
  clear hx hv
  go_enter Tryz.func41, Tryz.ntmps41
  go_wp2_with fail
  go_loopw [4, 11] (fun v q wr => ∃ k : Nat, k ≤ c ∧ v = .string (linksV n i a k s) ∧ q = .int .i64 ((a : Int) + (k : Int)) ∧ Box (Below w.heap.size w wr)) (fun _ q _ => b - (intOf q).toNat)
  case atStart => exact ⟨0, by omega, rfl, by simp, hB0⟩
  case round =>
    clear hB0
    obtain ⟨k, hk, rfl, rfl, hB⟩ := hrel
    by_cases hlt : k < c
    · obtain ⟨z, hz⟩ : ∃ z, linksV n i a k s = z := ⟨_, rfl⟩
      have hzs : z.size = 16 := by rw [← hz]; exact linksV_size n i a s hs k
      have hnext : linkV n i (a + k) z = linksV n i a (k + 1) s := by rw [linksV, hz]
      have hsz : (tagL 33 [by2 n, by1 i, by1 (a + k), z]).length ≤ 140737488354000 := by
        have h2 : (by2 n).size = 2 := rfl
        have h1 : (by1 i).size = 1 := rfl
        have h3 : (by1 (a + k)).size = 1 := rfl
        simp only [tagL, tagP, List.flatMap_cons, List.flatMap_nil, List.length_cons, List.length_append, data_len, be4_length, List.length_nil, h1, h2, h3, hzs]
        omega
      have hts := tagS_size 33 [by2 n, by1 i, by1 (a + k), z]
      have hval : (tagS 33 [by2 n, by1 i, by1 (a + k), z]).extract 0 16 = linksV n i a (k + 1) s := hnext
      obtain ⟨ts, hTS⟩ : ∃ ts, tagS 33 [by2 n, by1 i, by1 (a + k), z] = ts := ⟨_, rfl⟩
      have hTg := fun w1 => rtag_parts 33 (.slice (some ⟨w1.heap.size, 0, none⟩) 4 4) [by2 n, by1 i, by1 (a + k), z] (w1.alloc (.cells #[.string (by2 n), .string (by1 i), .string (by1 (a + k)), .string z] 9)) (parts_new w1 [by2 n, by1 i, by1 (a + k), z] 9) hsz (by simp)
      rw [show hashOf (tagL 33 [by2 n, by1 i, by1 (a + k), z]) = ts from hTS] at hTg
      rw [hTS] at hts hval
      obtain ⟨p, hp⟩ : ∃ p, UInt8.ofNat (a + k) = p := ⟨_, rfl⟩
      have hpv : (a : Int) + (k : Int) = (p.toNat : Int) := by rw [← hp, UInt8.toNat_ofNat']; omega
      have hpl : p.toNat < 256 := p.toNat_lt
      rw [hbx, show by1 (a + k) = one p by rw [by1, hp]] at hTg
      obtain ⟨y, hy⟩ : ∃ y, linksV n i a (k + 1) s = y := ⟨_, rfl⟩
      rw [hy] at hval
      rw [hz, hpv]
      have hpb : p.toNat < b := by omega
      have hpv2 : (p.toNat : Int) + 1 = (a : Int) + ((k + 1 : Nat) : Int) := by omega
      replace hpv2 := Box.mk hpv2
      replace hz := Box.mk hz
      replace hy := Box.mk hy
      clear hsz hTS hnext hp hpv hbx
      go_wp2_with fail
      have hBd : Box (Below w.heap.size w wr.drew) := ⟨hB.out.trans (Drawn.below ⟨1, rfl⟩)⟩
      refine region_go (C := fun _ => True) rfl ?_
      generalize wr.drew = wd at hBd ⊢
      clear hB
      refine go_calms [0, 1, 3, 4, 7, 8, 11] 9 rfl (by kernel_rfl) (by kernel_rfl) (by kernel_rfl) True.intro ?_
      simp [nth]
      try simp only [Act.put]
      repeat (go_big_quiet_step (first | exact fun _ => rfl | rfl))
      refine wpQuiet_nil ?_
      refine go_fork3 2 5 9 (by kernel_rfl) (goOp_wp 2 rfl rfl (fun K hK => ?_)) (goOp_wp 5 rfl rfl (fun K hK => ?_)) (goOp_wp 9 rfl rfl (fun K hK => ?_))
      · go_simp
        refine (hNum wd).mono ?_
        rintro e w1 ⟨rfl, hb1⟩
        refine hK _ _ True.intro ?_
        clear hK K
        have hB1 : Box (Below w.heap.size w w1) := ⟨hBd.out.trans (hb1.mono hBd.out.size)⟩
        clear hb1 hBd
        refine go_fork 5 9 (by kernel_rfl) (goOp_wp 5 rfl rfl (fun K hK => ?_)) (goOp_wp 9 rfl rfl (fun K hK => ?_))
        · go_simp
          refine hK _ _ True.intro ?_
          clear hK K
          have hB2 : Box (Below w.heap.size w (w1.alloc (.cells #[Value.int .u8 (x.toNat : Int)] 5))) := ⟨hB1.out.alloc hB1.out.size _⟩
          have hO1_2 := Box.mk (own_one w1 x)
          clear hB1
          obtain ⟨a2, ha2⟩ : ∃ a, w1.heap.size = a := ⟨_, rfl⟩
          rw [ha2] at hO1_2 ⊢
          generalize w1.alloc (.cells #[Value.int .u8 (x.toNat : Int)] 5) = w2 at hB2 hO1_2 ⊢
          clear ha2
          refine go_fork 6 9 (by kernel_rfl) (goOp_wp 6 rfl rfl (fun K hK => ?_)) (goOp_wp 9 rfl rfl (fun K hK => ?_))
          · have hcv3 := own_text hO1_2.out
            rw [show (⟨[x].toArray⟩ : ByteArray) = one x from rfl] at hcv3
            go_simp
            refine hK _ _ True.intro ?_
            clear hK K hcv3 hO1_2
            refine go_forced 9 (by kernel_rfl) (goOp_wp 9 rfl rfl (fun K hK => ?_))
            go_simp
            refine hK _ _ True.intro ?_
            clear hK K
            have hB4 : Box (Below w.heap.size w (w2.alloc (.cells #[Value.int .u8 (p.toNat : Int)] 5))) := ⟨hB2.out.alloc hB2.out.size _⟩
            have hO2_4 := Box.mk (own_one w2 p)
            clear hB2
            obtain ⟨a4, ha4⟩ : ∃ a, w2.heap.size = a := ⟨_, rfl⟩
            rw [ha4] at hO2_4 ⊢
            generalize w2.alloc (.cells #[Value.int .u8 (p.toNat : Int)] 5) = w4 at hB4 hO2_4 ⊢
            clear ha4
            refine go_forced 10 (by kernel_rfl) (goOp_wp 10 rfl rfl (fun K hK => ?_))
            have hcv5 := own_text hO2_4.out
            rw [show (⟨[p].toArray⟩ : ByteArray) = one p from rfl] at hcv5
            go_simp
            refine hK _ _ True.intro ?_
            clear hK K hcv5 hO2_4
            refine go_forced 12 (by kernel_rfl) (goOp_wp 12 rfl rfl (fun K hK => ?_))
            go_simp
            refine hK _ _ True.intro ?_
            clear hK K
            have hF := hTg w4
            have hBt : Box (Below w.heap.size w (w4.alloc (.cells #[.string (by2 n), .string (one x), .string (one p), .string z] 9))) := ⟨hB4.out.alloc hB4.out.size _⟩
            clear hTg hB4 hNum
            refine go_forced 13 (by kernel_rfl) (goOp_wp 13 rfl rfl (fun K hK => ?_))
            go_simp
            refine hF.mono ?_
            rintro e we ⟨rfl, hbe⟩
            refine hK _ _ True.intro ?_
            clear hK K hF
            have hBe : Box (Below w.heap.size w we) := ⟨hBt.out.trans (hbe.mono hBt.out.size)⟩
            clear hBt hbe
            refine go_calms [14, 15] 0 rfl (by kernel_rfl) (by kernel_rfl) (by kernel_rfl) True.intro ?_
            simp [nth]
            try simp only [Act.put]
            repeat (go_big_quiet_step (first | exact fun _ => rfl | rfl))
            refine wpQuiet_nil ?_
            refine go_done (by kernel_rfl) ?_
            go_simp
            go_wp2_with fail
            exact ⟨⟨k + 1, by omega, by rw [hy.out], by rw [hpv2.out], hBe⟩, by simp [intOf]; omega⟩
          · go_simp
            refine hK _ _ True.intro ?_
            clear hK K
            have hB6 : Box (Below w.heap.size w (w2.alloc (.cells #[Value.int .u8 (p.toNat : Int)] 5))) := ⟨hB2.out.alloc hB2.out.size _⟩
            have hO2_6 := Box.mk (own_one w2 p)
            have hO1_6 : Box _ := ⟨hO1_2.out.alloc (.cells #[Value.int .u8 (p.toNat : Int)] 5)⟩
            clear hB2 hO1_2
            obtain ⟨a6, ha6⟩ : ∃ a, w2.heap.size = a := ⟨_, rfl⟩
            rw [ha6] at hO2_6 ⊢
            generalize w2.alloc (.cells #[Value.int .u8 (p.toNat : Int)] 5) = w6 at hB6 hO1_6 hO2_6 ⊢
            clear ha6
            refine go_fork 6 10 (by kernel_rfl) (goOp_wp 6 rfl rfl (fun K hK => ?_)) (goOp_wp 10 rfl rfl (fun K hK => ?_))
            · have hcv7 := own_text hO1_6.out
              rw [show (⟨[x].toArray⟩ : ByteArray) = one x from rfl] at hcv7
              go_simp
              refine hK _ _ True.intro ?_
              clear hK K hcv7 hO1_6
              refine go_forced 10 (by kernel_rfl) (goOp_wp 10 rfl rfl (fun K hK => ?_))
              have hcv8 := own_text hO2_6.out
              rw [show (⟨[p].toArray⟩ : ByteArray) = one p from rfl] at hcv8
              go_simp
              refine hK _ _ True.intro ?_
              clear hK K hcv8 hO2_6
              refine go_forced 12 (by kernel_rfl) (goOp_wp 12 rfl rfl (fun K hK => ?_))
              go_simp
              refine hK _ _ True.intro ?_
              clear hK K
              have hF := hTg w6
              have hBt : Box (Below w.heap.size w (w6.alloc (.cells #[.string (by2 n), .string (one x), .string (one p), .string z] 9))) := ⟨hB6.out.alloc hB6.out.size _⟩
              clear hTg hB6 hNum
              refine go_forced 13 (by kernel_rfl) (goOp_wp 13 rfl rfl (fun K hK => ?_))
              go_simp
              refine hF.mono ?_
              rintro e we ⟨rfl, hbe⟩
              refine hK _ _ True.intro ?_
              clear hK K hF
              have hBe : Box (Below w.heap.size w we) := ⟨hBt.out.trans (hbe.mono hBt.out.size)⟩
              clear hBt hbe
              refine go_calms [14, 15] 0 rfl (by kernel_rfl) (by kernel_rfl) (by kernel_rfl) True.intro ?_
              simp [nth]
              try simp only [Act.put]
              repeat (go_big_quiet_step (first | exact fun _ => rfl | rfl))
              refine wpQuiet_nil ?_
              refine go_done (by kernel_rfl) ?_
              go_simp
              go_wp2_with fail
              exact ⟨⟨k + 1, by omega, by rw [hy.out], by rw [hpv2.out], hBe⟩, by simp [intOf]; omega⟩
            · have hcv9 := own_text hO2_6.out
              rw [show (⟨[p].toArray⟩ : ByteArray) = one p from rfl] at hcv9
              go_simp
              refine hK _ _ True.intro ?_
              clear hK K hcv9 hO2_6
              refine go_forced 6 (by kernel_rfl) (goOp_wp 6 rfl rfl (fun K hK => ?_))
              have hcv10 := own_text hO1_6.out
              rw [show (⟨[x].toArray⟩ : ByteArray) = one x from rfl] at hcv10
              go_simp
              refine hK _ _ True.intro ?_
              clear hK K hcv10 hO1_6
              refine go_forced 12 (by kernel_rfl) (goOp_wp 12 rfl rfl (fun K hK => ?_))
              go_simp
              refine hK _ _ True.intro ?_
              clear hK K
              have hF := hTg w6
              have hBt : Box (Below w.heap.size w (w6.alloc (.cells #[.string (by2 n), .string (one x), .string (one p), .string z] 9))) := ⟨hB6.out.alloc hB6.out.size _⟩
              clear hTg hB6 hNum
              refine go_forced 13 (by kernel_rfl) (goOp_wp 13 rfl rfl (fun K hK => ?_))
              go_simp
              refine hF.mono ?_
              rintro e we ⟨rfl, hbe⟩
              refine hK _ _ True.intro ?_
              clear hK K hF
              have hBe : Box (Below w.heap.size w we) := ⟨hBt.out.trans (hbe.mono hBt.out.size)⟩
              clear hBt hbe
              refine go_calms [14, 15] 0 rfl (by kernel_rfl) (by kernel_rfl) (by kernel_rfl) True.intro ?_
              simp [nth]
              try simp only [Act.put]
              repeat (go_big_quiet_step (first | exact fun _ => rfl | rfl))
              refine wpQuiet_nil ?_
              refine go_done (by kernel_rfl) ?_
              go_simp
              go_wp2_with fail
              exact ⟨⟨k + 1, by omega, by rw [hy.out], by rw [hpv2.out], hBe⟩, by simp [intOf]; omega⟩
        · go_simp
          refine hK _ _ True.intro ?_
          clear hK K
          have hB11 : Box (Below w.heap.size w (w1.alloc (.cells #[Value.int .u8 (p.toNat : Int)] 5))) := ⟨hB1.out.alloc hB1.out.size _⟩
          have hO2_11 := Box.mk (own_one w1 p)
          clear hB1
          obtain ⟨a11, ha11⟩ : ∃ a, w1.heap.size = a := ⟨_, rfl⟩
          rw [ha11] at hO2_11 ⊢
          generalize w1.alloc (.cells #[Value.int .u8 (p.toNat : Int)] 5) = w11 at hB11 hO2_11 ⊢
          clear ha11
          refine go_fork 5 10 (by kernel_rfl) (goOp_wp 5 rfl rfl (fun K hK => ?_)) (goOp_wp 10 rfl rfl (fun K hK => ?_))
          · go_simp
            refine hK _ _ True.intro ?_
            clear hK K
            have hB12 : Box (Below w.heap.size w (w11.alloc (.cells #[Value.int .u8 (x.toNat : Int)] 5))) := ⟨hB11.out.alloc hB11.out.size _⟩
            have hO1_12 := Box.mk (own_one w11 x)
            have hO2_12 : Box _ := ⟨hO2_11.out.alloc (.cells #[Value.int .u8 (x.toNat : Int)] 5)⟩
            clear hB11 hO2_11
            obtain ⟨a12, ha12⟩ : ∃ a, w11.heap.size = a := ⟨_, rfl⟩
            rw [ha12] at hO1_12 ⊢
            generalize w11.alloc (.cells #[Value.int .u8 (x.toNat : Int)] 5) = w12 at hB12 hO2_12 hO1_12 ⊢
            clear ha12
            refine go_fork 6 10 (by kernel_rfl) (goOp_wp 6 rfl rfl (fun K hK => ?_)) (goOp_wp 10 rfl rfl (fun K hK => ?_))
            · have hcv13 := own_text hO1_12.out
              rw [show (⟨[x].toArray⟩ : ByteArray) = one x from rfl] at hcv13
              go_simp
              refine hK _ _ True.intro ?_
              clear hK K hcv13 hO1_12
              refine go_forced 10 (by kernel_rfl) (goOp_wp 10 rfl rfl (fun K hK => ?_))
              have hcv14 := own_text hO2_12.out
              rw [show (⟨[p].toArray⟩ : ByteArray) = one p from rfl] at hcv14
              go_simp
              refine hK _ _ True.intro ?_
              clear hK K hcv14 hO2_12
              refine go_forced 12 (by kernel_rfl) (goOp_wp 12 rfl rfl (fun K hK => ?_))
              go_simp
              refine hK _ _ True.intro ?_
              clear hK K
              have hF := hTg w12
              have hBt : Box (Below w.heap.size w (w12.alloc (.cells #[.string (by2 n), .string (one x), .string (one p), .string z] 9))) := ⟨hB12.out.alloc hB12.out.size _⟩
              clear hTg hB12 hNum
              refine go_forced 13 (by kernel_rfl) (goOp_wp 13 rfl rfl (fun K hK => ?_))
              go_simp
              refine hF.mono ?_
              rintro e we ⟨rfl, hbe⟩
              refine hK _ _ True.intro ?_
              clear hK K hF
              have hBe : Box (Below w.heap.size w we) := ⟨hBt.out.trans (hbe.mono hBt.out.size)⟩
              clear hBt hbe
              refine go_calms [14, 15] 0 rfl (by kernel_rfl) (by kernel_rfl) (by kernel_rfl) True.intro ?_
              simp [nth]
              try simp only [Act.put]
              repeat (go_big_quiet_step (first | exact fun _ => rfl | rfl))
              refine wpQuiet_nil ?_
              refine go_done (by kernel_rfl) ?_
              go_simp
              go_wp2_with fail
              exact ⟨⟨k + 1, by omega, by rw [hy.out], by rw [hpv2.out], hBe⟩, by simp [intOf]; omega⟩
            · have hcv15 := own_text hO2_12.out
              rw [show (⟨[p].toArray⟩ : ByteArray) = one p from rfl] at hcv15
              go_simp
              refine hK _ _ True.intro ?_
              clear hK K hcv15 hO2_12
              refine go_forced 6 (by kernel_rfl) (goOp_wp 6 rfl rfl (fun K hK => ?_))
              have hcv16 := own_text hO1_12.out
              rw [show (⟨[x].toArray⟩ : ByteArray) = one x from rfl] at hcv16
              go_simp
              refine hK _ _ True.intro ?_
              clear hK K hcv16 hO1_12
              refine go_forced 12 (by kernel_rfl) (goOp_wp 12 rfl rfl (fun K hK => ?_))
              go_simp
              refine hK _ _ True.intro ?_
              clear hK K
              have hF := hTg w12
              have hBt : Box (Below w.heap.size w (w12.alloc (.cells #[.string (by2 n), .string (one x), .string (one p), .string z] 9))) := ⟨hB12.out.alloc hB12.out.size _⟩
              clear hTg hB12 hNum
              refine go_forced 13 (by kernel_rfl) (goOp_wp 13 rfl rfl (fun K hK => ?_))
              go_simp
              refine hF.mono ?_
              rintro e we ⟨rfl, hbe⟩
              refine hK _ _ True.intro ?_
              clear hK K hF
              have hBe : Box (Below w.heap.size w we) := ⟨hBt.out.trans (hbe.mono hBt.out.size)⟩
              clear hBt hbe
              refine go_calms [14, 15] 0 rfl (by kernel_rfl) (by kernel_rfl) (by kernel_rfl) True.intro ?_
              simp [nth]
              try simp only [Act.put]
              repeat (go_big_quiet_step (first | exact fun _ => rfl | rfl))
              refine wpQuiet_nil ?_
              refine go_done (by kernel_rfl) ?_
              go_simp
              go_wp2_with fail
              exact ⟨⟨k + 1, by omega, by rw [hy.out], by rw [hpv2.out], hBe⟩, by simp [intOf]; omega⟩
          · have hcv17 := own_text hO2_11.out
            rw [show (⟨[p].toArray⟩ : ByteArray) = one p from rfl] at hcv17
            go_simp
            refine hK _ _ True.intro ?_
            clear hK K hcv17 hO2_11
            refine go_forced 5 (by kernel_rfl) (goOp_wp 5 rfl rfl (fun K hK => ?_))
            go_simp
            refine hK _ _ True.intro ?_
            clear hK K
            have hB18 : Box (Below w.heap.size w (w11.alloc (.cells #[Value.int .u8 (x.toNat : Int)] 5))) := ⟨hB11.out.alloc hB11.out.size _⟩
            have hO1_18 := Box.mk (own_one w11 x)
            clear hB11
            obtain ⟨a18, ha18⟩ : ∃ a, w11.heap.size = a := ⟨_, rfl⟩
            rw [ha18] at hO1_18 ⊢
            generalize w11.alloc (.cells #[Value.int .u8 (x.toNat : Int)] 5) = w18 at hB18 hO1_18 ⊢
            clear ha18
            refine go_forced 6 (by kernel_rfl) (goOp_wp 6 rfl rfl (fun K hK => ?_))
            have hcv19 := own_text hO1_18.out
            rw [show (⟨[x].toArray⟩ : ByteArray) = one x from rfl] at hcv19
            go_simp
            refine hK _ _ True.intro ?_
            clear hK K hcv19 hO1_18
            refine go_forced 12 (by kernel_rfl) (goOp_wp 12 rfl rfl (fun K hK => ?_))
            go_simp
            refine hK _ _ True.intro ?_
            clear hK K
            have hF := hTg w18
            have hBt : Box (Below w.heap.size w (w18.alloc (.cells #[.string (by2 n), .string (one x), .string (one p), .string z] 9))) := ⟨hB18.out.alloc hB18.out.size _⟩
            clear hTg hB18 hNum
            refine go_forced 13 (by kernel_rfl) (goOp_wp 13 rfl rfl (fun K hK => ?_))
            go_simp
            refine hF.mono ?_
            rintro e we ⟨rfl, hbe⟩
            refine hK _ _ True.intro ?_
            clear hK K hF
            have hBe : Box (Below w.heap.size w we) := ⟨hBt.out.trans (hbe.mono hBt.out.size)⟩
            clear hBt hbe
            refine go_calms [14, 15] 0 rfl (by kernel_rfl) (by kernel_rfl) (by kernel_rfl) True.intro ?_
            simp [nth]
            try simp only [Act.put]
            repeat (go_big_quiet_step (first | exact fun _ => rfl | rfl))
            refine wpQuiet_nil ?_
            refine go_done (by kernel_rfl) ?_
            go_simp
            go_wp2_with fail
            exact ⟨⟨k + 1, by omega, by rw [hy.out], by rw [hpv2.out], hBe⟩, by simp [intOf]; omega⟩
      · go_simp
        refine hK _ _ True.intro ?_
        clear hK K
        have hB20 : Box (Below w.heap.size w (wd.alloc (.cells #[Value.int .u8 (x.toNat : Int)] 5))) := ⟨hBd.out.alloc hBd.out.size _⟩
        have hO1_20 := Box.mk (own_one wd x)
        clear hBd
        obtain ⟨a20, ha20⟩ : ∃ a, wd.heap.size = a := ⟨_, rfl⟩
        rw [ha20] at hO1_20 ⊢
        generalize wd.alloc (.cells #[Value.int .u8 (x.toNat : Int)] 5) = w20 at hB20 hO1_20 ⊢
        clear ha20
        refine go_fork3 2 6 9 (by kernel_rfl) (goOp_wp 2 rfl rfl (fun K hK => ?_)) (goOp_wp 6 rfl rfl (fun K hK => ?_)) (goOp_wp 9 rfl rfl (fun K hK => ?_))
        · go_simp
          refine (hNum w20).mono ?_
          rintro e w21 ⟨rfl, hb21⟩
          refine hK _ _ True.intro ?_
          clear hK K
          have hB21 : Box (Below w.heap.size w w21) := ⟨hB20.out.trans (hb21.mono hB20.out.size)⟩
          have hO1_21 := Box.mk (ownsRow_below hO1_20.out hb21)
          clear hb21 hB20 hO1_20
          refine go_fork 6 9 (by kernel_rfl) (goOp_wp 6 rfl rfl (fun K hK => ?_)) (goOp_wp 9 rfl rfl (fun K hK => ?_))
          · have hcv22 := own_text hO1_21.out
            rw [show (⟨[x].toArray⟩ : ByteArray) = one x from rfl] at hcv22
            go_simp
            refine hK _ _ True.intro ?_
            clear hK K hcv22 hO1_21
            refine go_forced 9 (by kernel_rfl) (goOp_wp 9 rfl rfl (fun K hK => ?_))
            go_simp
            refine hK _ _ True.intro ?_
            clear hK K
            have hB23 : Box (Below w.heap.size w (w21.alloc (.cells #[Value.int .u8 (p.toNat : Int)] 5))) := ⟨hB21.out.alloc hB21.out.size _⟩
            have hO2_23 := Box.mk (own_one w21 p)
            clear hB21
            obtain ⟨a23, ha23⟩ : ∃ a, w21.heap.size = a := ⟨_, rfl⟩
            rw [ha23] at hO2_23 ⊢
            generalize w21.alloc (.cells #[Value.int .u8 (p.toNat : Int)] 5) = w23 at hB23 hO2_23 ⊢
            clear ha23
            refine go_forced 10 (by kernel_rfl) (goOp_wp 10 rfl rfl (fun K hK => ?_))
            have hcv24 := own_text hO2_23.out
            rw [show (⟨[p].toArray⟩ : ByteArray) = one p from rfl] at hcv24
            go_simp
            refine hK _ _ True.intro ?_
            clear hK K hcv24 hO2_23
            refine go_forced 12 (by kernel_rfl) (goOp_wp 12 rfl rfl (fun K hK => ?_))
            go_simp
            refine hK _ _ True.intro ?_
            clear hK K
            have hF := hTg w23
            have hBt : Box (Below w.heap.size w (w23.alloc (.cells #[.string (by2 n), .string (one x), .string (one p), .string z] 9))) := ⟨hB23.out.alloc hB23.out.size _⟩
            clear hTg hB23 hNum
            refine go_forced 13 (by kernel_rfl) (goOp_wp 13 rfl rfl (fun K hK => ?_))
            go_simp
            refine hF.mono ?_
            rintro e we ⟨rfl, hbe⟩
            refine hK _ _ True.intro ?_
            clear hK K hF
            have hBe : Box (Below w.heap.size w we) := ⟨hBt.out.trans (hbe.mono hBt.out.size)⟩
            clear hBt hbe
            refine go_calms [14, 15] 0 rfl (by kernel_rfl) (by kernel_rfl) (by kernel_rfl) True.intro ?_
            simp [nth]
            try simp only [Act.put]
            repeat (go_big_quiet_step (first | exact fun _ => rfl | rfl))
            refine wpQuiet_nil ?_
            refine go_done (by kernel_rfl) ?_
            go_simp
            go_wp2_with fail
            exact ⟨⟨k + 1, by omega, by rw [hy.out], by rw [hpv2.out], hBe⟩, by simp [intOf]; omega⟩
          · go_simp
            refine hK _ _ True.intro ?_
            clear hK K
            have hB25 : Box (Below w.heap.size w (w21.alloc (.cells #[Value.int .u8 (p.toNat : Int)] 5))) := ⟨hB21.out.alloc hB21.out.size _⟩
            have hO2_25 := Box.mk (own_one w21 p)
            have hO1_25 : Box _ := ⟨hO1_21.out.alloc (.cells #[Value.int .u8 (p.toNat : Int)] 5)⟩
            clear hB21 hO1_21
            obtain ⟨a25, ha25⟩ : ∃ a, w21.heap.size = a := ⟨_, rfl⟩
            rw [ha25] at hO2_25 ⊢
            generalize w21.alloc (.cells #[Value.int .u8 (p.toNat : Int)] 5) = w25 at hB25 hO1_25 hO2_25 ⊢
            clear ha25
            refine go_fork 6 10 (by kernel_rfl) (goOp_wp 6 rfl rfl (fun K hK => ?_)) (goOp_wp 10 rfl rfl (fun K hK => ?_))
            · have hcv26 := own_text hO1_25.out
              rw [show (⟨[x].toArray⟩ : ByteArray) = one x from rfl] at hcv26
              go_simp
              refine hK _ _ True.intro ?_
              clear hK K hcv26 hO1_25
              refine go_forced 10 (by kernel_rfl) (goOp_wp 10 rfl rfl (fun K hK => ?_))
              have hcv27 := own_text hO2_25.out
              rw [show (⟨[p].toArray⟩ : ByteArray) = one p from rfl] at hcv27
              go_simp
              refine hK _ _ True.intro ?_
              clear hK K hcv27 hO2_25
              refine go_forced 12 (by kernel_rfl) (goOp_wp 12 rfl rfl (fun K hK => ?_))
              go_simp
              refine hK _ _ True.intro ?_
              clear hK K
              have hF := hTg w25
              have hBt : Box (Below w.heap.size w (w25.alloc (.cells #[.string (by2 n), .string (one x), .string (one p), .string z] 9))) := ⟨hB25.out.alloc hB25.out.size _⟩
              clear hTg hB25 hNum
              refine go_forced 13 (by kernel_rfl) (goOp_wp 13 rfl rfl (fun K hK => ?_))
              go_simp
              refine hF.mono ?_
              rintro e we ⟨rfl, hbe⟩
              refine hK _ _ True.intro ?_
              clear hK K hF
              have hBe : Box (Below w.heap.size w we) := ⟨hBt.out.trans (hbe.mono hBt.out.size)⟩
              clear hBt hbe
              refine go_calms [14, 15] 0 rfl (by kernel_rfl) (by kernel_rfl) (by kernel_rfl) True.intro ?_
              simp [nth]
              try simp only [Act.put]
              repeat (go_big_quiet_step (first | exact fun _ => rfl | rfl))
              refine wpQuiet_nil ?_
              refine go_done (by kernel_rfl) ?_
              go_simp
              go_wp2_with fail
              exact ⟨⟨k + 1, by omega, by rw [hy.out], by rw [hpv2.out], hBe⟩, by simp [intOf]; omega⟩
            · have hcv28 := own_text hO2_25.out
              rw [show (⟨[p].toArray⟩ : ByteArray) = one p from rfl] at hcv28
              go_simp
              refine hK _ _ True.intro ?_
              clear hK K hcv28 hO2_25
              refine go_forced 6 (by kernel_rfl) (goOp_wp 6 rfl rfl (fun K hK => ?_))
              have hcv29 := own_text hO1_25.out
              rw [show (⟨[x].toArray⟩ : ByteArray) = one x from rfl] at hcv29
              go_simp
              refine hK _ _ True.intro ?_
              clear hK K hcv29 hO1_25
              refine go_forced 12 (by kernel_rfl) (goOp_wp 12 rfl rfl (fun K hK => ?_))
              go_simp
              refine hK _ _ True.intro ?_
              clear hK K
              have hF := hTg w25
              have hBt : Box (Below w.heap.size w (w25.alloc (.cells #[.string (by2 n), .string (one x), .string (one p), .string z] 9))) := ⟨hB25.out.alloc hB25.out.size _⟩
              clear hTg hB25 hNum
              refine go_forced 13 (by kernel_rfl) (goOp_wp 13 rfl rfl (fun K hK => ?_))
              go_simp
              refine hF.mono ?_
              rintro e we ⟨rfl, hbe⟩
              refine hK _ _ True.intro ?_
              clear hK K hF
              have hBe : Box (Below w.heap.size w we) := ⟨hBt.out.trans (hbe.mono hBt.out.size)⟩
              clear hBt hbe
              refine go_calms [14, 15] 0 rfl (by kernel_rfl) (by kernel_rfl) (by kernel_rfl) True.intro ?_
              simp [nth]
              try simp only [Act.put]
              repeat (go_big_quiet_step (first | exact fun _ => rfl | rfl))
              refine wpQuiet_nil ?_
              refine go_done (by kernel_rfl) ?_
              go_simp
              go_wp2_with fail
              exact ⟨⟨k + 1, by omega, by rw [hy.out], by rw [hpv2.out], hBe⟩, by simp [intOf]; omega⟩
        · have hcv30 := own_text hO1_20.out
          rw [show (⟨[x].toArray⟩ : ByteArray) = one x from rfl] at hcv30
          go_simp
          refine hK _ _ True.intro ?_
          clear hK K hcv30 hO1_20
          refine go_fork 2 9 (by kernel_rfl) (goOp_wp 2 rfl rfl (fun K hK => ?_)) (goOp_wp 9 rfl rfl (fun K hK => ?_))
          · go_simp
            refine (hNum w20).mono ?_
            rintro e w31 ⟨rfl, hb31⟩
            refine hK _ _ True.intro ?_
            clear hK K
            have hB31 : Box (Below w.heap.size w w31) := ⟨hB20.out.trans (hb31.mono hB20.out.size)⟩
            clear hb31 hB20
            refine go_forced 9 (by kernel_rfl) (goOp_wp 9 rfl rfl (fun K hK => ?_))
            go_simp
            refine hK _ _ True.intro ?_
            clear hK K
            have hB32 : Box (Below w.heap.size w (w31.alloc (.cells #[Value.int .u8 (p.toNat : Int)] 5))) := ⟨hB31.out.alloc hB31.out.size _⟩
            have hO2_32 := Box.mk (own_one w31 p)
            clear hB31
            obtain ⟨a32, ha32⟩ : ∃ a, w31.heap.size = a := ⟨_, rfl⟩
            rw [ha32] at hO2_32 ⊢
            generalize w31.alloc (.cells #[Value.int .u8 (p.toNat : Int)] 5) = w32 at hB32 hO2_32 ⊢
            clear ha32
            refine go_forced 10 (by kernel_rfl) (goOp_wp 10 rfl rfl (fun K hK => ?_))
            have hcv33 := own_text hO2_32.out
            rw [show (⟨[p].toArray⟩ : ByteArray) = one p from rfl] at hcv33
            go_simp
            refine hK _ _ True.intro ?_
            clear hK K hcv33 hO2_32
            refine go_forced 12 (by kernel_rfl) (goOp_wp 12 rfl rfl (fun K hK => ?_))
            go_simp
            refine hK _ _ True.intro ?_
            clear hK K
            have hF := hTg w32
            have hBt : Box (Below w.heap.size w (w32.alloc (.cells #[.string (by2 n), .string (one x), .string (one p), .string z] 9))) := ⟨hB32.out.alloc hB32.out.size _⟩
            clear hTg hB32 hNum
            refine go_forced 13 (by kernel_rfl) (goOp_wp 13 rfl rfl (fun K hK => ?_))
            go_simp
            refine hF.mono ?_
            rintro e we ⟨rfl, hbe⟩
            refine hK _ _ True.intro ?_
            clear hK K hF
            have hBe : Box (Below w.heap.size w we) := ⟨hBt.out.trans (hbe.mono hBt.out.size)⟩
            clear hBt hbe
            refine go_calms [14, 15] 0 rfl (by kernel_rfl) (by kernel_rfl) (by kernel_rfl) True.intro ?_
            simp [nth]
            try simp only [Act.put]
            repeat (go_big_quiet_step (first | exact fun _ => rfl | rfl))
            refine wpQuiet_nil ?_
            refine go_done (by kernel_rfl) ?_
            go_simp
            go_wp2_with fail
            exact ⟨⟨k + 1, by omega, by rw [hy.out], by rw [hpv2.out], hBe⟩, by simp [intOf]; omega⟩
          · go_simp
            refine hK _ _ True.intro ?_
            clear hK K
            have hB34 : Box (Below w.heap.size w (w20.alloc (.cells #[Value.int .u8 (p.toNat : Int)] 5))) := ⟨hB20.out.alloc hB20.out.size _⟩
            have hO2_34 := Box.mk (own_one w20 p)
            clear hB20
            obtain ⟨a34, ha34⟩ : ∃ a, w20.heap.size = a := ⟨_, rfl⟩
            rw [ha34] at hO2_34 ⊢
            generalize w20.alloc (.cells #[Value.int .u8 (p.toNat : Int)] 5) = w34 at hB34 hO2_34 ⊢
            clear ha34
            refine go_fork 2 10 (by kernel_rfl) (goOp_wp 2 rfl rfl (fun K hK => ?_)) (goOp_wp 10 rfl rfl (fun K hK => ?_))
            · go_simp
              refine (hNum w34).mono ?_
              rintro e w35 ⟨rfl, hb35⟩
              refine hK _ _ True.intro ?_
              clear hK K
              have hB35 : Box (Below w.heap.size w w35) := ⟨hB34.out.trans (hb35.mono hB34.out.size)⟩
              have hO2_35 := Box.mk (ownsRow_below hO2_34.out hb35)
              clear hb35 hB34 hO2_34
              refine go_forced 10 (by kernel_rfl) (goOp_wp 10 rfl rfl (fun K hK => ?_))
              have hcv36 := own_text hO2_35.out
              rw [show (⟨[p].toArray⟩ : ByteArray) = one p from rfl] at hcv36
              go_simp
              refine hK _ _ True.intro ?_
              clear hK K hcv36 hO2_35
              refine go_forced 12 (by kernel_rfl) (goOp_wp 12 rfl rfl (fun K hK => ?_))
              go_simp
              refine hK _ _ True.intro ?_
              clear hK K
              have hF := hTg w35
              have hBt : Box (Below w.heap.size w (w35.alloc (.cells #[.string (by2 n), .string (one x), .string (one p), .string z] 9))) := ⟨hB35.out.alloc hB35.out.size _⟩
              clear hTg hB35 hNum
              refine go_forced 13 (by kernel_rfl) (goOp_wp 13 rfl rfl (fun K hK => ?_))
              go_simp
              refine hF.mono ?_
              rintro e we ⟨rfl, hbe⟩
              refine hK _ _ True.intro ?_
              clear hK K hF
              have hBe : Box (Below w.heap.size w we) := ⟨hBt.out.trans (hbe.mono hBt.out.size)⟩
              clear hBt hbe
              refine go_calms [14, 15] 0 rfl (by kernel_rfl) (by kernel_rfl) (by kernel_rfl) True.intro ?_
              simp [nth]
              try simp only [Act.put]
              repeat (go_big_quiet_step (first | exact fun _ => rfl | rfl))
              refine wpQuiet_nil ?_
              refine go_done (by kernel_rfl) ?_
              go_simp
              go_wp2_with fail
              exact ⟨⟨k + 1, by omega, by rw [hy.out], by rw [hpv2.out], hBe⟩, by simp [intOf]; omega⟩
            · have hcv37 := own_text hO2_34.out
              rw [show (⟨[p].toArray⟩ : ByteArray) = one p from rfl] at hcv37
              go_simp
              refine hK _ _ True.intro ?_
              clear hK K hcv37 hO2_34
              refine go_forced 2 (by kernel_rfl) (goOp_wp 2 rfl rfl (fun K hK => ?_))
              go_simp
              refine (hNum w34).mono ?_
              rintro e w38 ⟨rfl, hb38⟩
              refine hK _ _ True.intro ?_
              clear hK K
              have hB38 : Box (Below w.heap.size w w38) := ⟨hB34.out.trans (hb38.mono hB34.out.size)⟩
              clear hb38 hB34
              refine go_forced 12 (by kernel_rfl) (goOp_wp 12 rfl rfl (fun K hK => ?_))
              go_simp
              refine hK _ _ True.intro ?_
              clear hK K
              have hF := hTg w38
              have hBt : Box (Below w.heap.size w (w38.alloc (.cells #[.string (by2 n), .string (one x), .string (one p), .string z] 9))) := ⟨hB38.out.alloc hB38.out.size _⟩
              clear hTg hB38 hNum
              refine go_forced 13 (by kernel_rfl) (goOp_wp 13 rfl rfl (fun K hK => ?_))
              go_simp
              refine hF.mono ?_
              rintro e we ⟨rfl, hbe⟩
              refine hK _ _ True.intro ?_
              clear hK K hF
              have hBe : Box (Below w.heap.size w we) := ⟨hBt.out.trans (hbe.mono hBt.out.size)⟩
              clear hBt hbe
              refine go_calms [14, 15] 0 rfl (by kernel_rfl) (by kernel_rfl) (by kernel_rfl) True.intro ?_
              simp [nth]
              try simp only [Act.put]
              repeat (go_big_quiet_step (first | exact fun _ => rfl | rfl))
              refine wpQuiet_nil ?_
              refine go_done (by kernel_rfl) ?_
              go_simp
              go_wp2_with fail
              exact ⟨⟨k + 1, by omega, by rw [hy.out], by rw [hpv2.out], hBe⟩, by simp [intOf]; omega⟩
        · go_simp
          refine hK _ _ True.intro ?_
          clear hK K
          have hB39 : Box (Below w.heap.size w (w20.alloc (.cells #[Value.int .u8 (p.toNat : Int)] 5))) := ⟨hB20.out.alloc hB20.out.size _⟩
          have hO2_39 := Box.mk (own_one w20 p)
          have hO1_39 : Box _ := ⟨hO1_20.out.alloc (.cells #[Value.int .u8 (p.toNat : Int)] 5)⟩
          clear hB20 hO1_20
          obtain ⟨a39, ha39⟩ : ∃ a, w20.heap.size = a := ⟨_, rfl⟩
          rw [ha39] at hO2_39 ⊢
          generalize w20.alloc (.cells #[Value.int .u8 (p.toNat : Int)] 5) = w39 at hB39 hO1_39 hO2_39 ⊢
          clear ha39
          refine go_fork3 2 6 10 (by kernel_rfl) (goOp_wp 2 rfl rfl (fun K hK => ?_)) (goOp_wp 6 rfl rfl (fun K hK => ?_)) (goOp_wp 10 rfl rfl (fun K hK => ?_))
          · go_simp
            refine (hNum w39).mono ?_
            rintro e w40 ⟨rfl, hb40⟩
            refine hK _ _ True.intro ?_
            clear hK K
            have hB40 : Box (Below w.heap.size w w40) := ⟨hB39.out.trans (hb40.mono hB39.out.size)⟩
            have hO1_40 := Box.mk (ownsRow_below hO1_39.out hb40)
            have hO2_40 := Box.mk (ownsRow_below hO2_39.out hb40)
            clear hb40 hB39 hO1_39 hO2_39
            refine go_fork 6 10 (by kernel_rfl) (goOp_wp 6 rfl rfl (fun K hK => ?_)) (goOp_wp 10 rfl rfl (fun K hK => ?_))
            · have hcv41 := own_text hO1_40.out
              rw [show (⟨[x].toArray⟩ : ByteArray) = one x from rfl] at hcv41
              go_simp
              refine hK _ _ True.intro ?_
              clear hK K hcv41 hO1_40
              refine go_forced 10 (by kernel_rfl) (goOp_wp 10 rfl rfl (fun K hK => ?_))
              have hcv42 := own_text hO2_40.out
              rw [show (⟨[p].toArray⟩ : ByteArray) = one p from rfl] at hcv42
              go_simp
              refine hK _ _ True.intro ?_
              clear hK K hcv42 hO2_40
              refine go_forced 12 (by kernel_rfl) (goOp_wp 12 rfl rfl (fun K hK => ?_))
              go_simp
              refine hK _ _ True.intro ?_
              clear hK K
              have hF := hTg w40
              have hBt : Box (Below w.heap.size w (w40.alloc (.cells #[.string (by2 n), .string (one x), .string (one p), .string z] 9))) := ⟨hB40.out.alloc hB40.out.size _⟩
              clear hTg hB40 hNum
              refine go_forced 13 (by kernel_rfl) (goOp_wp 13 rfl rfl (fun K hK => ?_))
              go_simp
              refine hF.mono ?_
              rintro e we ⟨rfl, hbe⟩
              refine hK _ _ True.intro ?_
              clear hK K hF
              have hBe : Box (Below w.heap.size w we) := ⟨hBt.out.trans (hbe.mono hBt.out.size)⟩
              clear hBt hbe
              refine go_calms [14, 15] 0 rfl (by kernel_rfl) (by kernel_rfl) (by kernel_rfl) True.intro ?_
              simp [nth]
              try simp only [Act.put]
              repeat (go_big_quiet_step (first | exact fun _ => rfl | rfl))
              refine wpQuiet_nil ?_
              refine go_done (by kernel_rfl) ?_
              go_simp
              go_wp2_with fail
              exact ⟨⟨k + 1, by omega, by rw [hy.out], by rw [hpv2.out], hBe⟩, by simp [intOf]; omega⟩
            · have hcv43 := own_text hO2_40.out
              rw [show (⟨[p].toArray⟩ : ByteArray) = one p from rfl] at hcv43
              go_simp
              refine hK _ _ True.intro ?_
              clear hK K hcv43 hO2_40
              refine go_forced 6 (by kernel_rfl) (goOp_wp 6 rfl rfl (fun K hK => ?_))
              have hcv44 := own_text hO1_40.out
              rw [show (⟨[x].toArray⟩ : ByteArray) = one x from rfl] at hcv44
              go_simp
              refine hK _ _ True.intro ?_
              clear hK K hcv44 hO1_40
              refine go_forced 12 (by kernel_rfl) (goOp_wp 12 rfl rfl (fun K hK => ?_))
              go_simp
              refine hK _ _ True.intro ?_
              clear hK K
              have hF := hTg w40
              have hBt : Box (Below w.heap.size w (w40.alloc (.cells #[.string (by2 n), .string (one x), .string (one p), .string z] 9))) := ⟨hB40.out.alloc hB40.out.size _⟩
              clear hTg hB40 hNum
              refine go_forced 13 (by kernel_rfl) (goOp_wp 13 rfl rfl (fun K hK => ?_))
              go_simp
              refine hF.mono ?_
              rintro e we ⟨rfl, hbe⟩
              refine hK _ _ True.intro ?_
              clear hK K hF
              have hBe : Box (Below w.heap.size w we) := ⟨hBt.out.trans (hbe.mono hBt.out.size)⟩
              clear hBt hbe
              refine go_calms [14, 15] 0 rfl (by kernel_rfl) (by kernel_rfl) (by kernel_rfl) True.intro ?_
              simp [nth]
              try simp only [Act.put]
              repeat (go_big_quiet_step (first | exact fun _ => rfl | rfl))
              refine wpQuiet_nil ?_
              refine go_done (by kernel_rfl) ?_
              go_simp
              go_wp2_with fail
              exact ⟨⟨k + 1, by omega, by rw [hy.out], by rw [hpv2.out], hBe⟩, by simp [intOf]; omega⟩
          · have hcv45 := own_text hO1_39.out
            rw [show (⟨[x].toArray⟩ : ByteArray) = one x from rfl] at hcv45
            go_simp
            refine hK _ _ True.intro ?_
            clear hK K hcv45 hO1_39
            refine go_fork 2 10 (by kernel_rfl) (goOp_wp 2 rfl rfl (fun K hK => ?_)) (goOp_wp 10 rfl rfl (fun K hK => ?_))
            · go_simp
              refine (hNum w39).mono ?_
              rintro e w46 ⟨rfl, hb46⟩
              refine hK _ _ True.intro ?_
              clear hK K
              have hB46 : Box (Below w.heap.size w w46) := ⟨hB39.out.trans (hb46.mono hB39.out.size)⟩
              have hO2_46 := Box.mk (ownsRow_below hO2_39.out hb46)
              clear hb46 hB39 hO2_39
              refine go_forced 10 (by kernel_rfl) (goOp_wp 10 rfl rfl (fun K hK => ?_))
              have hcv47 := own_text hO2_46.out
              rw [show (⟨[p].toArray⟩ : ByteArray) = one p from rfl] at hcv47
              go_simp
              refine hK _ _ True.intro ?_
              clear hK K hcv47 hO2_46
              refine go_forced 12 (by kernel_rfl) (goOp_wp 12 rfl rfl (fun K hK => ?_))
              go_simp
              refine hK _ _ True.intro ?_
              clear hK K
              have hF := hTg w46
              have hBt : Box (Below w.heap.size w (w46.alloc (.cells #[.string (by2 n), .string (one x), .string (one p), .string z] 9))) := ⟨hB46.out.alloc hB46.out.size _⟩
              clear hTg hB46 hNum
              refine go_forced 13 (by kernel_rfl) (goOp_wp 13 rfl rfl (fun K hK => ?_))
              go_simp
              refine hF.mono ?_
              rintro e we ⟨rfl, hbe⟩
              refine hK _ _ True.intro ?_
              clear hK K hF
              have hBe : Box (Below w.heap.size w we) := ⟨hBt.out.trans (hbe.mono hBt.out.size)⟩
              clear hBt hbe
              refine go_calms [14, 15] 0 rfl (by kernel_rfl) (by kernel_rfl) (by kernel_rfl) True.intro ?_
              simp [nth]
              try simp only [Act.put]
              repeat (go_big_quiet_step (first | exact fun _ => rfl | rfl))
              refine wpQuiet_nil ?_
              refine go_done (by kernel_rfl) ?_
              go_simp
              go_wp2_with fail
              exact ⟨⟨k + 1, by omega, by rw [hy.out], by rw [hpv2.out], hBe⟩, by simp [intOf]; omega⟩
            · have hcv48 := own_text hO2_39.out
              rw [show (⟨[p].toArray⟩ : ByteArray) = one p from rfl] at hcv48
              go_simp
              refine hK _ _ True.intro ?_
              clear hK K hcv48 hO2_39
              refine go_forced 2 (by kernel_rfl) (goOp_wp 2 rfl rfl (fun K hK => ?_))
              go_simp
              refine (hNum w39).mono ?_
              rintro e w49 ⟨rfl, hb49⟩
              refine hK _ _ True.intro ?_
              clear hK K
              have hB49 : Box (Below w.heap.size w w49) := ⟨hB39.out.trans (hb49.mono hB39.out.size)⟩
              clear hb49 hB39
              refine go_forced 12 (by kernel_rfl) (goOp_wp 12 rfl rfl (fun K hK => ?_))
              go_simp
              refine hK _ _ True.intro ?_
              clear hK K
              have hF := hTg w49
              have hBt : Box (Below w.heap.size w (w49.alloc (.cells #[.string (by2 n), .string (one x), .string (one p), .string z] 9))) := ⟨hB49.out.alloc hB49.out.size _⟩
              clear hTg hB49 hNum
              refine go_forced 13 (by kernel_rfl) (goOp_wp 13 rfl rfl (fun K hK => ?_))
              go_simp
              refine hF.mono ?_
              rintro e we ⟨rfl, hbe⟩
              refine hK _ _ True.intro ?_
              clear hK K hF
              have hBe : Box (Below w.heap.size w we) := ⟨hBt.out.trans (hbe.mono hBt.out.size)⟩
              clear hBt hbe
              refine go_calms [14, 15] 0 rfl (by kernel_rfl) (by kernel_rfl) (by kernel_rfl) True.intro ?_
              simp [nth]
              try simp only [Act.put]
              repeat (go_big_quiet_step (first | exact fun _ => rfl | rfl))
              refine wpQuiet_nil ?_
              refine go_done (by kernel_rfl) ?_
              go_simp
              go_wp2_with fail
              exact ⟨⟨k + 1, by omega, by rw [hy.out], by rw [hpv2.out], hBe⟩, by simp [intOf]; omega⟩
          · have hcv50 := own_text hO2_39.out
            rw [show (⟨[p].toArray⟩ : ByteArray) = one p from rfl] at hcv50
            go_simp
            refine hK _ _ True.intro ?_
            clear hK K hcv50 hO2_39
            refine go_fork 2 6 (by kernel_rfl) (goOp_wp 2 rfl rfl (fun K hK => ?_)) (goOp_wp 6 rfl rfl (fun K hK => ?_))
            · go_simp
              refine (hNum w39).mono ?_
              rintro e w51 ⟨rfl, hb51⟩
              refine hK _ _ True.intro ?_
              clear hK K
              have hB51 : Box (Below w.heap.size w w51) := ⟨hB39.out.trans (hb51.mono hB39.out.size)⟩
              have hO1_51 := Box.mk (ownsRow_below hO1_39.out hb51)
              clear hb51 hB39 hO1_39
              refine go_forced 6 (by kernel_rfl) (goOp_wp 6 rfl rfl (fun K hK => ?_))
              have hcv52 := own_text hO1_51.out
              rw [show (⟨[x].toArray⟩ : ByteArray) = one x from rfl] at hcv52
              go_simp
              refine hK _ _ True.intro ?_
              clear hK K hcv52 hO1_51
              refine go_forced 12 (by kernel_rfl) (goOp_wp 12 rfl rfl (fun K hK => ?_))
              go_simp
              refine hK _ _ True.intro ?_
              clear hK K
              have hF := hTg w51
              have hBt : Box (Below w.heap.size w (w51.alloc (.cells #[.string (by2 n), .string (one x), .string (one p), .string z] 9))) := ⟨hB51.out.alloc hB51.out.size _⟩
              clear hTg hB51 hNum
              refine go_forced 13 (by kernel_rfl) (goOp_wp 13 rfl rfl (fun K hK => ?_))
              go_simp
              refine hF.mono ?_
              rintro e we ⟨rfl, hbe⟩
              refine hK _ _ True.intro ?_
              clear hK K hF
              have hBe : Box (Below w.heap.size w we) := ⟨hBt.out.trans (hbe.mono hBt.out.size)⟩
              clear hBt hbe
              refine go_calms [14, 15] 0 rfl (by kernel_rfl) (by kernel_rfl) (by kernel_rfl) True.intro ?_
              simp [nth]
              try simp only [Act.put]
              repeat (go_big_quiet_step (first | exact fun _ => rfl | rfl))
              refine wpQuiet_nil ?_
              refine go_done (by kernel_rfl) ?_
              go_simp
              go_wp2_with fail
              exact ⟨⟨k + 1, by omega, by rw [hy.out], by rw [hpv2.out], hBe⟩, by simp [intOf]; omega⟩
            · have hcv53 := own_text hO1_39.out
              rw [show (⟨[x].toArray⟩ : ByteArray) = one x from rfl] at hcv53
              go_simp
              refine hK _ _ True.intro ?_
              clear hK K hcv53 hO1_39
              refine go_forced 2 (by kernel_rfl) (goOp_wp 2 rfl rfl (fun K hK => ?_))
              go_simp
              refine (hNum w39).mono ?_
              rintro e w54 ⟨rfl, hb54⟩
              refine hK _ _ True.intro ?_
              clear hK K
              have hB54 : Box (Below w.heap.size w w54) := ⟨hB39.out.trans (hb54.mono hB39.out.size)⟩
              clear hb54 hB39
              refine go_forced 12 (by kernel_rfl) (goOp_wp 12 rfl rfl (fun K hK => ?_))
              go_simp
              refine hK _ _ True.intro ?_
              clear hK K
              have hF := hTg w54
              have hBt : Box (Below w.heap.size w (w54.alloc (.cells #[.string (by2 n), .string (one x), .string (one p), .string z] 9))) := ⟨hB54.out.alloc hB54.out.size _⟩
              clear hTg hB54 hNum
              refine go_forced 13 (by kernel_rfl) (goOp_wp 13 rfl rfl (fun K hK => ?_))
              go_simp
              refine hF.mono ?_
              rintro e we ⟨rfl, hbe⟩
              refine hK _ _ True.intro ?_
              clear hK K hF
              have hBe : Box (Below w.heap.size w we) := ⟨hBt.out.trans (hbe.mono hBt.out.size)⟩
              clear hBt hbe
              refine go_calms [14, 15] 0 rfl (by kernel_rfl) (by kernel_rfl) (by kernel_rfl) True.intro ?_
              simp [nth]
              try simp only [Act.put]
              repeat (go_big_quiet_step (first | exact fun _ => rfl | rfl))
              refine wpQuiet_nil ?_
              refine go_done (by kernel_rfl) ?_
              go_simp
              go_wp2_with fail
              exact ⟨⟨k + 1, by omega, by rw [hy.out], by rw [hpv2.out], hBe⟩, by simp [intOf]; omega⟩
      · go_simp
        refine hK _ _ True.intro ?_
        clear hK K
        have hB55 : Box (Below w.heap.size w (wd.alloc (.cells #[Value.int .u8 (p.toNat : Int)] 5))) := ⟨hBd.out.alloc hBd.out.size _⟩
        have hO2_55 := Box.mk (own_one wd p)
        clear hBd
        obtain ⟨a55, ha55⟩ : ∃ a, wd.heap.size = a := ⟨_, rfl⟩
        rw [ha55] at hO2_55 ⊢
        generalize wd.alloc (.cells #[Value.int .u8 (p.toNat : Int)] 5) = w55 at hB55 hO2_55 ⊢
        clear ha55
        refine go_fork3 2 5 10 (by kernel_rfl) (goOp_wp 2 rfl rfl (fun K hK => ?_)) (goOp_wp 5 rfl rfl (fun K hK => ?_)) (goOp_wp 10 rfl rfl (fun K hK => ?_))
        · go_simp
          refine (hNum w55).mono ?_
          rintro e w56 ⟨rfl, hb56⟩
          refine hK _ _ True.intro ?_
          clear hK K
          have hB56 : Box (Below w.heap.size w w56) := ⟨hB55.out.trans (hb56.mono hB55.out.size)⟩
          have hO2_56 := Box.mk (ownsRow_below hO2_55.out hb56)
          clear hb56 hB55 hO2_55
          refine go_fork 5 10 (by kernel_rfl) (goOp_wp 5 rfl rfl (fun K hK => ?_)) (goOp_wp 10 rfl rfl (fun K hK => ?_))
          · go_simp
            refine hK _ _ True.intro ?_
            clear hK K
            have hB57 : Box (Below w.heap.size w (w56.alloc (.cells #[Value.int .u8 (x.toNat : Int)] 5))) := ⟨hB56.out.alloc hB56.out.size _⟩
            have hO1_57 := Box.mk (own_one w56 x)
            have hO2_57 : Box _ := ⟨hO2_56.out.alloc (.cells #[Value.int .u8 (x.toNat : Int)] 5)⟩
            clear hB56 hO2_56
            obtain ⟨a57, ha57⟩ : ∃ a, w56.heap.size = a := ⟨_, rfl⟩
            rw [ha57] at hO1_57 ⊢
            generalize w56.alloc (.cells #[Value.int .u8 (x.toNat : Int)] 5) = w57 at hB57 hO2_57 hO1_57 ⊢
            clear ha57
            refine go_fork 6 10 (by kernel_rfl) (goOp_wp 6 rfl rfl (fun K hK => ?_)) (goOp_wp 10 rfl rfl (fun K hK => ?_))
            · have hcv58 := own_text hO1_57.out
              rw [show (⟨[x].toArray⟩ : ByteArray) = one x from rfl] at hcv58
              go_simp
              refine hK _ _ True.intro ?_
              clear hK K hcv58 hO1_57
              refine go_forced 10 (by kernel_rfl) (goOp_wp 10 rfl rfl (fun K hK => ?_))
              have hcv59 := own_text hO2_57.out
              rw [show (⟨[p].toArray⟩ : ByteArray) = one p from rfl] at hcv59
              go_simp
              refine hK _ _ True.intro ?_
              clear hK K hcv59 hO2_57
              refine go_forced 12 (by kernel_rfl) (goOp_wp 12 rfl rfl (fun K hK => ?_))
              go_simp
              refine hK _ _ True.intro ?_
              clear hK K
              have hF := hTg w57
              have hBt : Box (Below w.heap.size w (w57.alloc (.cells #[.string (by2 n), .string (one x), .string (one p), .string z] 9))) := ⟨hB57.out.alloc hB57.out.size _⟩
              clear hTg hB57 hNum
              refine go_forced 13 (by kernel_rfl) (goOp_wp 13 rfl rfl (fun K hK => ?_))
              go_simp
              refine hF.mono ?_
              rintro e we ⟨rfl, hbe⟩
              refine hK _ _ True.intro ?_
              clear hK K hF
              have hBe : Box (Below w.heap.size w we) := ⟨hBt.out.trans (hbe.mono hBt.out.size)⟩
              clear hBt hbe
              refine go_calms [14, 15] 0 rfl (by kernel_rfl) (by kernel_rfl) (by kernel_rfl) True.intro ?_
              simp [nth]
              try simp only [Act.put]
              repeat (go_big_quiet_step (first | exact fun _ => rfl | rfl))
              refine wpQuiet_nil ?_
              refine go_done (by kernel_rfl) ?_
              go_simp
              go_wp2_with fail
              exact ⟨⟨k + 1, by omega, by rw [hy.out], by rw [hpv2.out], hBe⟩, by simp [intOf]; omega⟩
            · have hcv60 := own_text hO2_57.out
              rw [show (⟨[p].toArray⟩ : ByteArray) = one p from rfl] at hcv60
              go_simp
              refine hK _ _ True.intro ?_
              clear hK K hcv60 hO2_57
              refine go_forced 6 (by kernel_rfl) (goOp_wp 6 rfl rfl (fun K hK => ?_))
              have hcv61 := own_text hO1_57.out
              rw [show (⟨[x].toArray⟩ : ByteArray) = one x from rfl] at hcv61
              go_simp
              refine hK _ _ True.intro ?_
              clear hK K hcv61 hO1_57
              refine go_forced 12 (by kernel_rfl) (goOp_wp 12 rfl rfl (fun K hK => ?_))
              go_simp
              refine hK _ _ True.intro ?_
              clear hK K
              have hF := hTg w57
              have hBt : Box (Below w.heap.size w (w57.alloc (.cells #[.string (by2 n), .string (one x), .string (one p), .string z] 9))) := ⟨hB57.out.alloc hB57.out.size _⟩
              clear hTg hB57 hNum
              refine go_forced 13 (by kernel_rfl) (goOp_wp 13 rfl rfl (fun K hK => ?_))
              go_simp
              refine hF.mono ?_
              rintro e we ⟨rfl, hbe⟩
              refine hK _ _ True.intro ?_
              clear hK K hF
              have hBe : Box (Below w.heap.size w we) := ⟨hBt.out.trans (hbe.mono hBt.out.size)⟩
              clear hBt hbe
              refine go_calms [14, 15] 0 rfl (by kernel_rfl) (by kernel_rfl) (by kernel_rfl) True.intro ?_
              simp [nth]
              try simp only [Act.put]
              repeat (go_big_quiet_step (first | exact fun _ => rfl | rfl))
              refine wpQuiet_nil ?_
              refine go_done (by kernel_rfl) ?_
              go_simp
              go_wp2_with fail
              exact ⟨⟨k + 1, by omega, by rw [hy.out], by rw [hpv2.out], hBe⟩, by simp [intOf]; omega⟩
          · have hcv62 := own_text hO2_56.out
            rw [show (⟨[p].toArray⟩ : ByteArray) = one p from rfl] at hcv62
            go_simp
            refine hK _ _ True.intro ?_
            clear hK K hcv62 hO2_56
            refine go_forced 5 (by kernel_rfl) (goOp_wp 5 rfl rfl (fun K hK => ?_))
            go_simp
            refine hK _ _ True.intro ?_
            clear hK K
            have hB63 : Box (Below w.heap.size w (w56.alloc (.cells #[Value.int .u8 (x.toNat : Int)] 5))) := ⟨hB56.out.alloc hB56.out.size _⟩
            have hO1_63 := Box.mk (own_one w56 x)
            clear hB56
            obtain ⟨a63, ha63⟩ : ∃ a, w56.heap.size = a := ⟨_, rfl⟩
            rw [ha63] at hO1_63 ⊢
            generalize w56.alloc (.cells #[Value.int .u8 (x.toNat : Int)] 5) = w63 at hB63 hO1_63 ⊢
            clear ha63
            refine go_forced 6 (by kernel_rfl) (goOp_wp 6 rfl rfl (fun K hK => ?_))
            have hcv64 := own_text hO1_63.out
            rw [show (⟨[x].toArray⟩ : ByteArray) = one x from rfl] at hcv64
            go_simp
            refine hK _ _ True.intro ?_
            clear hK K hcv64 hO1_63
            refine go_forced 12 (by kernel_rfl) (goOp_wp 12 rfl rfl (fun K hK => ?_))
            go_simp
            refine hK _ _ True.intro ?_
            clear hK K
            have hF := hTg w63
            have hBt : Box (Below w.heap.size w (w63.alloc (.cells #[.string (by2 n), .string (one x), .string (one p), .string z] 9))) := ⟨hB63.out.alloc hB63.out.size _⟩
            clear hTg hB63 hNum
            refine go_forced 13 (by kernel_rfl) (goOp_wp 13 rfl rfl (fun K hK => ?_))
            go_simp
            refine hF.mono ?_
            rintro e we ⟨rfl, hbe⟩
            refine hK _ _ True.intro ?_
            clear hK K hF
            have hBe : Box (Below w.heap.size w we) := ⟨hBt.out.trans (hbe.mono hBt.out.size)⟩
            clear hBt hbe
            refine go_calms [14, 15] 0 rfl (by kernel_rfl) (by kernel_rfl) (by kernel_rfl) True.intro ?_
            simp [nth]
            try simp only [Act.put]
            repeat (go_big_quiet_step (first | exact fun _ => rfl | rfl))
            refine wpQuiet_nil ?_
            refine go_done (by kernel_rfl) ?_
            go_simp
            go_wp2_with fail
            exact ⟨⟨k + 1, by omega, by rw [hy.out], by rw [hpv2.out], hBe⟩, by simp [intOf]; omega⟩
        · go_simp
          refine hK _ _ True.intro ?_
          clear hK K
          have hB65 : Box (Below w.heap.size w (w55.alloc (.cells #[Value.int .u8 (x.toNat : Int)] 5))) := ⟨hB55.out.alloc hB55.out.size _⟩
          have hO1_65 := Box.mk (own_one w55 x)
          have hO2_65 : Box _ := ⟨hO2_55.out.alloc (.cells #[Value.int .u8 (x.toNat : Int)] 5)⟩
          clear hB55 hO2_55
          obtain ⟨a65, ha65⟩ : ∃ a, w55.heap.size = a := ⟨_, rfl⟩
          rw [ha65] at hO1_65 ⊢
          generalize w55.alloc (.cells #[Value.int .u8 (x.toNat : Int)] 5) = w65 at hB65 hO2_65 hO1_65 ⊢
          clear ha65
          refine go_fork3 2 6 10 (by kernel_rfl) (goOp_wp 2 rfl rfl (fun K hK => ?_)) (goOp_wp 6 rfl rfl (fun K hK => ?_)) (goOp_wp 10 rfl rfl (fun K hK => ?_))
          · go_simp
            refine (hNum w65).mono ?_
            rintro e w66 ⟨rfl, hb66⟩
            refine hK _ _ True.intro ?_
            clear hK K
            have hB66 : Box (Below w.heap.size w w66) := ⟨hB65.out.trans (hb66.mono hB65.out.size)⟩
            have hO2_66 := Box.mk (ownsRow_below hO2_65.out hb66)
            have hO1_66 := Box.mk (ownsRow_below hO1_65.out hb66)
            clear hb66 hB65 hO2_65 hO1_65
            refine go_fork 6 10 (by kernel_rfl) (goOp_wp 6 rfl rfl (fun K hK => ?_)) (goOp_wp 10 rfl rfl (fun K hK => ?_))
            · have hcv67 := own_text hO1_66.out
              rw [show (⟨[x].toArray⟩ : ByteArray) = one x from rfl] at hcv67
              go_simp
              refine hK _ _ True.intro ?_
              clear hK K hcv67 hO1_66
              refine go_forced 10 (by kernel_rfl) (goOp_wp 10 rfl rfl (fun K hK => ?_))
              have hcv68 := own_text hO2_66.out
              rw [show (⟨[p].toArray⟩ : ByteArray) = one p from rfl] at hcv68
              go_simp
              refine hK _ _ True.intro ?_
              clear hK K hcv68 hO2_66
              refine go_forced 12 (by kernel_rfl) (goOp_wp 12 rfl rfl (fun K hK => ?_))
              go_simp
              refine hK _ _ True.intro ?_
              clear hK K
              have hF := hTg w66
              have hBt : Box (Below w.heap.size w (w66.alloc (.cells #[.string (by2 n), .string (one x), .string (one p), .string z] 9))) := ⟨hB66.out.alloc hB66.out.size _⟩
              clear hTg hB66 hNum
              refine go_forced 13 (by kernel_rfl) (goOp_wp 13 rfl rfl (fun K hK => ?_))
              go_simp
              refine hF.mono ?_
              rintro e we ⟨rfl, hbe⟩
              refine hK _ _ True.intro ?_
              clear hK K hF
              have hBe : Box (Below w.heap.size w we) := ⟨hBt.out.trans (hbe.mono hBt.out.size)⟩
              clear hBt hbe
              refine go_calms [14, 15] 0 rfl (by kernel_rfl) (by kernel_rfl) (by kernel_rfl) True.intro ?_
              simp [nth]
              try simp only [Act.put]
              repeat (go_big_quiet_step (first | exact fun _ => rfl | rfl))
              refine wpQuiet_nil ?_
              refine go_done (by kernel_rfl) ?_
              go_simp
              go_wp2_with fail
              exact ⟨⟨k + 1, by omega, by rw [hy.out], by rw [hpv2.out], hBe⟩, by simp [intOf]; omega⟩
            · have hcv69 := own_text hO2_66.out
              rw [show (⟨[p].toArray⟩ : ByteArray) = one p from rfl] at hcv69
              go_simp
              refine hK _ _ True.intro ?_
              clear hK K hcv69 hO2_66
              refine go_forced 6 (by kernel_rfl) (goOp_wp 6 rfl rfl (fun K hK => ?_))
              have hcv70 := own_text hO1_66.out
              rw [show (⟨[x].toArray⟩ : ByteArray) = one x from rfl] at hcv70
              go_simp
              refine hK _ _ True.intro ?_
              clear hK K hcv70 hO1_66
              refine go_forced 12 (by kernel_rfl) (goOp_wp 12 rfl rfl (fun K hK => ?_))
              go_simp
              refine hK _ _ True.intro ?_
              clear hK K
              have hF := hTg w66
              have hBt : Box (Below w.heap.size w (w66.alloc (.cells #[.string (by2 n), .string (one x), .string (one p), .string z] 9))) := ⟨hB66.out.alloc hB66.out.size _⟩
              clear hTg hB66 hNum
              refine go_forced 13 (by kernel_rfl) (goOp_wp 13 rfl rfl (fun K hK => ?_))
              go_simp
              refine hF.mono ?_
              rintro e we ⟨rfl, hbe⟩
              refine hK _ _ True.intro ?_
              clear hK K hF
              have hBe : Box (Below w.heap.size w we) := ⟨hBt.out.trans (hbe.mono hBt.out.size)⟩
              clear hBt hbe
              refine go_calms [14, 15] 0 rfl (by kernel_rfl) (by kernel_rfl) (by kernel_rfl) True.intro ?_
              simp [nth]
              try simp only [Act.put]
              repeat (go_big_quiet_step (first | exact fun _ => rfl | rfl))
              refine wpQuiet_nil ?_
              refine go_done (by kernel_rfl) ?_
              go_simp
              go_wp2_with fail
              exact ⟨⟨k + 1, by omega, by rw [hy.out], by rw [hpv2.out], hBe⟩, by simp [intOf]; omega⟩
          · have hcv71 := own_text hO1_65.out
            rw [show (⟨[x].toArray⟩ : ByteArray) = one x from rfl] at hcv71
            go_simp
            refine hK _ _ True.intro ?_
            clear hK K hcv71 hO1_65
            refine go_fork 2 10 (by kernel_rfl) (goOp_wp 2 rfl rfl (fun K hK => ?_)) (goOp_wp 10 rfl rfl (fun K hK => ?_))
            · go_simp
              refine (hNum w65).mono ?_
              rintro e w72 ⟨rfl, hb72⟩
              refine hK _ _ True.intro ?_
              clear hK K
              have hB72 : Box (Below w.heap.size w w72) := ⟨hB65.out.trans (hb72.mono hB65.out.size)⟩
              have hO2_72 := Box.mk (ownsRow_below hO2_65.out hb72)
              clear hb72 hB65 hO2_65
              refine go_forced 10 (by kernel_rfl) (goOp_wp 10 rfl rfl (fun K hK => ?_))
              have hcv73 := own_text hO2_72.out
              rw [show (⟨[p].toArray⟩ : ByteArray) = one p from rfl] at hcv73
              go_simp
              refine hK _ _ True.intro ?_
              clear hK K hcv73 hO2_72
              refine go_forced 12 (by kernel_rfl) (goOp_wp 12 rfl rfl (fun K hK => ?_))
              go_simp
              refine hK _ _ True.intro ?_
              clear hK K
              have hF := hTg w72
              have hBt : Box (Below w.heap.size w (w72.alloc (.cells #[.string (by2 n), .string (one x), .string (one p), .string z] 9))) := ⟨hB72.out.alloc hB72.out.size _⟩
              clear hTg hB72 hNum
              refine go_forced 13 (by kernel_rfl) (goOp_wp 13 rfl rfl (fun K hK => ?_))
              go_simp
              refine hF.mono ?_
              rintro e we ⟨rfl, hbe⟩
              refine hK _ _ True.intro ?_
              clear hK K hF
              have hBe : Box (Below w.heap.size w we) := ⟨hBt.out.trans (hbe.mono hBt.out.size)⟩
              clear hBt hbe
              refine go_calms [14, 15] 0 rfl (by kernel_rfl) (by kernel_rfl) (by kernel_rfl) True.intro ?_
              simp [nth]
              try simp only [Act.put]
              repeat (go_big_quiet_step (first | exact fun _ => rfl | rfl))
              refine wpQuiet_nil ?_
              refine go_done (by kernel_rfl) ?_
              go_simp
              go_wp2_with fail
              exact ⟨⟨k + 1, by omega, by rw [hy.out], by rw [hpv2.out], hBe⟩, by simp [intOf]; omega⟩
            · have hcv74 := own_text hO2_65.out
              rw [show (⟨[p].toArray⟩ : ByteArray) = one p from rfl] at hcv74
              go_simp
              refine hK _ _ True.intro ?_
              clear hK K hcv74 hO2_65
              refine go_forced 2 (by kernel_rfl) (goOp_wp 2 rfl rfl (fun K hK => ?_))
              go_simp
              refine (hNum w65).mono ?_
              rintro e w75 ⟨rfl, hb75⟩
              refine hK _ _ True.intro ?_
              clear hK K
              have hB75 : Box (Below w.heap.size w w75) := ⟨hB65.out.trans (hb75.mono hB65.out.size)⟩
              clear hb75 hB65
              refine go_forced 12 (by kernel_rfl) (goOp_wp 12 rfl rfl (fun K hK => ?_))
              go_simp
              refine hK _ _ True.intro ?_
              clear hK K
              have hF := hTg w75
              have hBt : Box (Below w.heap.size w (w75.alloc (.cells #[.string (by2 n), .string (one x), .string (one p), .string z] 9))) := ⟨hB75.out.alloc hB75.out.size _⟩
              clear hTg hB75 hNum
              refine go_forced 13 (by kernel_rfl) (goOp_wp 13 rfl rfl (fun K hK => ?_))
              go_simp
              refine hF.mono ?_
              rintro e we ⟨rfl, hbe⟩
              refine hK _ _ True.intro ?_
              clear hK K hF
              have hBe : Box (Below w.heap.size w we) := ⟨hBt.out.trans (hbe.mono hBt.out.size)⟩
              clear hBt hbe
              refine go_calms [14, 15] 0 rfl (by kernel_rfl) (by kernel_rfl) (by kernel_rfl) True.intro ?_
              simp [nth]
              try simp only [Act.put]
              repeat (go_big_quiet_step (first | exact fun _ => rfl | rfl))
              refine wpQuiet_nil ?_
              refine go_done (by kernel_rfl) ?_
              go_simp
              go_wp2_with fail
              exact ⟨⟨k + 1, by omega, by rw [hy.out], by rw [hpv2.out], hBe⟩, by simp [intOf]; omega⟩
          · have hcv76 := own_text hO2_65.out
            rw [show (⟨[p].toArray⟩ : ByteArray) = one p from rfl] at hcv76
            go_simp
            refine hK _ _ True.intro ?_
            clear hK K hcv76 hO2_65
            refine go_fork 2 6 (by kernel_rfl) (goOp_wp 2 rfl rfl (fun K hK => ?_)) (goOp_wp 6 rfl rfl (fun K hK => ?_))
            · go_simp
              refine (hNum w65).mono ?_
              rintro e w77 ⟨rfl, hb77⟩
              refine hK _ _ True.intro ?_
              clear hK K
              have hB77 : Box (Below w.heap.size w w77) := ⟨hB65.out.trans (hb77.mono hB65.out.size)⟩
              have hO1_77 := Box.mk (ownsRow_below hO1_65.out hb77)
              clear hb77 hB65 hO1_65
              refine go_forced 6 (by kernel_rfl) (goOp_wp 6 rfl rfl (fun K hK => ?_))
              have hcv78 := own_text hO1_77.out
              rw [show (⟨[x].toArray⟩ : ByteArray) = one x from rfl] at hcv78
              go_simp
              refine hK _ _ True.intro ?_
              clear hK K hcv78 hO1_77
              refine go_forced 12 (by kernel_rfl) (goOp_wp 12 rfl rfl (fun K hK => ?_))
              go_simp
              refine hK _ _ True.intro ?_
              clear hK K
              have hF := hTg w77
              have hBt : Box (Below w.heap.size w (w77.alloc (.cells #[.string (by2 n), .string (one x), .string (one p), .string z] 9))) := ⟨hB77.out.alloc hB77.out.size _⟩
              clear hTg hB77 hNum
              refine go_forced 13 (by kernel_rfl) (goOp_wp 13 rfl rfl (fun K hK => ?_))
              go_simp
              refine hF.mono ?_
              rintro e we ⟨rfl, hbe⟩
              refine hK _ _ True.intro ?_
              clear hK K hF
              have hBe : Box (Below w.heap.size w we) := ⟨hBt.out.trans (hbe.mono hBt.out.size)⟩
              clear hBt hbe
              refine go_calms [14, 15] 0 rfl (by kernel_rfl) (by kernel_rfl) (by kernel_rfl) True.intro ?_
              simp [nth]
              try simp only [Act.put]
              repeat (go_big_quiet_step (first | exact fun _ => rfl | rfl))
              refine wpQuiet_nil ?_
              refine go_done (by kernel_rfl) ?_
              go_simp
              go_wp2_with fail
              exact ⟨⟨k + 1, by omega, by rw [hy.out], by rw [hpv2.out], hBe⟩, by simp [intOf]; omega⟩
            · have hcv79 := own_text hO1_65.out
              rw [show (⟨[x].toArray⟩ : ByteArray) = one x from rfl] at hcv79
              go_simp
              refine hK _ _ True.intro ?_
              clear hK K hcv79 hO1_65
              refine go_forced 2 (by kernel_rfl) (goOp_wp 2 rfl rfl (fun K hK => ?_))
              go_simp
              refine (hNum w65).mono ?_
              rintro e w80 ⟨rfl, hb80⟩
              refine hK _ _ True.intro ?_
              clear hK K
              have hB80 : Box (Below w.heap.size w w80) := ⟨hB65.out.trans (hb80.mono hB65.out.size)⟩
              clear hb80 hB65
              refine go_forced 12 (by kernel_rfl) (goOp_wp 12 rfl rfl (fun K hK => ?_))
              go_simp
              refine hK _ _ True.intro ?_
              clear hK K
              have hF := hTg w80
              have hBt : Box (Below w.heap.size w (w80.alloc (.cells #[.string (by2 n), .string (one x), .string (one p), .string z] 9))) := ⟨hB80.out.alloc hB80.out.size _⟩
              clear hTg hB80 hNum
              refine go_forced 13 (by kernel_rfl) (goOp_wp 13 rfl rfl (fun K hK => ?_))
              go_simp
              refine hF.mono ?_
              rintro e we ⟨rfl, hbe⟩
              refine hK _ _ True.intro ?_
              clear hK K hF
              have hBe : Box (Below w.heap.size w we) := ⟨hBt.out.trans (hbe.mono hBt.out.size)⟩
              clear hBt hbe
              refine go_calms [14, 15] 0 rfl (by kernel_rfl) (by kernel_rfl) (by kernel_rfl) True.intro ?_
              simp [nth]
              try simp only [Act.put]
              repeat (go_big_quiet_step (first | exact fun _ => rfl | rfl))
              refine wpQuiet_nil ?_
              refine go_done (by kernel_rfl) ?_
              go_simp
              go_wp2_with fail
              exact ⟨⟨k + 1, by omega, by rw [hy.out], by rw [hpv2.out], hBe⟩, by simp [intOf]; omega⟩
        · have hcv81 := own_text hO2_55.out
          rw [show (⟨[p].toArray⟩ : ByteArray) = one p from rfl] at hcv81
          go_simp
          refine hK _ _ True.intro ?_
          clear hK K hcv81 hO2_55
          refine go_fork 2 5 (by kernel_rfl) (goOp_wp 2 rfl rfl (fun K hK => ?_)) (goOp_wp 5 rfl rfl (fun K hK => ?_))
          · go_simp
            refine (hNum w55).mono ?_
            rintro e w82 ⟨rfl, hb82⟩
            refine hK _ _ True.intro ?_
            clear hK K
            have hB82 : Box (Below w.heap.size w w82) := ⟨hB55.out.trans (hb82.mono hB55.out.size)⟩
            clear hb82 hB55
            refine go_forced 5 (by kernel_rfl) (goOp_wp 5 rfl rfl (fun K hK => ?_))
            go_simp
            refine hK _ _ True.intro ?_
            clear hK K
            have hB83 : Box (Below w.heap.size w (w82.alloc (.cells #[Value.int .u8 (x.toNat : Int)] 5))) := ⟨hB82.out.alloc hB82.out.size _⟩
            have hO1_83 := Box.mk (own_one w82 x)
            clear hB82
            obtain ⟨a83, ha83⟩ : ∃ a, w82.heap.size = a := ⟨_, rfl⟩
            rw [ha83] at hO1_83 ⊢
            generalize w82.alloc (.cells #[Value.int .u8 (x.toNat : Int)] 5) = w83 at hB83 hO1_83 ⊢
            clear ha83
            refine go_forced 6 (by kernel_rfl) (goOp_wp 6 rfl rfl (fun K hK => ?_))
            have hcv84 := own_text hO1_83.out
            rw [show (⟨[x].toArray⟩ : ByteArray) = one x from rfl] at hcv84
            go_simp
            refine hK _ _ True.intro ?_
            clear hK K hcv84 hO1_83
            refine go_forced 12 (by kernel_rfl) (goOp_wp 12 rfl rfl (fun K hK => ?_))
            go_simp
            refine hK _ _ True.intro ?_
            clear hK K
            have hF := hTg w83
            have hBt : Box (Below w.heap.size w (w83.alloc (.cells #[.string (by2 n), .string (one x), .string (one p), .string z] 9))) := ⟨hB83.out.alloc hB83.out.size _⟩
            clear hTg hB83 hNum
            refine go_forced 13 (by kernel_rfl) (goOp_wp 13 rfl rfl (fun K hK => ?_))
            go_simp
            refine hF.mono ?_
            rintro e we ⟨rfl, hbe⟩
            refine hK _ _ True.intro ?_
            clear hK K hF
            have hBe : Box (Below w.heap.size w we) := ⟨hBt.out.trans (hbe.mono hBt.out.size)⟩
            clear hBt hbe
            refine go_calms [14, 15] 0 rfl (by kernel_rfl) (by kernel_rfl) (by kernel_rfl) True.intro ?_
            simp [nth]
            try simp only [Act.put]
            repeat (go_big_quiet_step (first | exact fun _ => rfl | rfl))
            refine wpQuiet_nil ?_
            refine go_done (by kernel_rfl) ?_
            go_simp
            go_wp2_with fail
            exact ⟨⟨k + 1, by omega, by rw [hy.out], by rw [hpv2.out], hBe⟩, by simp [intOf]; omega⟩
          · go_simp
            refine hK _ _ True.intro ?_
            clear hK K
            have hB85 : Box (Below w.heap.size w (w55.alloc (.cells #[Value.int .u8 (x.toNat : Int)] 5))) := ⟨hB55.out.alloc hB55.out.size _⟩
            have hO1_85 := Box.mk (own_one w55 x)
            clear hB55
            obtain ⟨a85, ha85⟩ : ∃ a, w55.heap.size = a := ⟨_, rfl⟩
            rw [ha85] at hO1_85 ⊢
            generalize w55.alloc (.cells #[Value.int .u8 (x.toNat : Int)] 5) = w85 at hB85 hO1_85 ⊢
            clear ha85
            refine go_fork 2 6 (by kernel_rfl) (goOp_wp 2 rfl rfl (fun K hK => ?_)) (goOp_wp 6 rfl rfl (fun K hK => ?_))
            · go_simp
              refine (hNum w85).mono ?_
              rintro e w86 ⟨rfl, hb86⟩
              refine hK _ _ True.intro ?_
              clear hK K
              have hB86 : Box (Below w.heap.size w w86) := ⟨hB85.out.trans (hb86.mono hB85.out.size)⟩
              have hO1_86 := Box.mk (ownsRow_below hO1_85.out hb86)
              clear hb86 hB85 hO1_85
              refine go_forced 6 (by kernel_rfl) (goOp_wp 6 rfl rfl (fun K hK => ?_))
              have hcv87 := own_text hO1_86.out
              rw [show (⟨[x].toArray⟩ : ByteArray) = one x from rfl] at hcv87
              go_simp
              refine hK _ _ True.intro ?_
              clear hK K hcv87 hO1_86
              refine go_forced 12 (by kernel_rfl) (goOp_wp 12 rfl rfl (fun K hK => ?_))
              go_simp
              refine hK _ _ True.intro ?_
              clear hK K
              have hF := hTg w86
              have hBt : Box (Below w.heap.size w (w86.alloc (.cells #[.string (by2 n), .string (one x), .string (one p), .string z] 9))) := ⟨hB86.out.alloc hB86.out.size _⟩
              clear hTg hB86 hNum
              refine go_forced 13 (by kernel_rfl) (goOp_wp 13 rfl rfl (fun K hK => ?_))
              go_simp
              refine hF.mono ?_
              rintro e we ⟨rfl, hbe⟩
              refine hK _ _ True.intro ?_
              clear hK K hF
              have hBe : Box (Below w.heap.size w we) := ⟨hBt.out.trans (hbe.mono hBt.out.size)⟩
              clear hBt hbe
              refine go_calms [14, 15] 0 rfl (by kernel_rfl) (by kernel_rfl) (by kernel_rfl) True.intro ?_
              simp [nth]
              try simp only [Act.put]
              repeat (go_big_quiet_step (first | exact fun _ => rfl | rfl))
              refine wpQuiet_nil ?_
              refine go_done (by kernel_rfl) ?_
              go_simp
              go_wp2_with fail
              exact ⟨⟨k + 1, by omega, by rw [hy.out], by rw [hpv2.out], hBe⟩, by simp [intOf]; omega⟩
            · have hcv88 := own_text hO1_85.out
              rw [show (⟨[x].toArray⟩ : ByteArray) = one x from rfl] at hcv88
              go_simp
              refine hK _ _ True.intro ?_
              clear hK K hcv88 hO1_85
              refine go_forced 2 (by kernel_rfl) (goOp_wp 2 rfl rfl (fun K hK => ?_))
              go_simp
              refine (hNum w85).mono ?_
              rintro e w89 ⟨rfl, hb89⟩
              refine hK _ _ True.intro ?_
              clear hK K
              have hB89 : Box (Below w.heap.size w w89) := ⟨hB85.out.trans (hb89.mono hB85.out.size)⟩
              clear hb89 hB85
              refine go_forced 12 (by kernel_rfl) (goOp_wp 12 rfl rfl (fun K hK => ?_))
              go_simp
              refine hK _ _ True.intro ?_
              clear hK K
              have hF := hTg w89
              have hBt : Box (Below w.heap.size w (w89.alloc (.cells #[.string (by2 n), .string (one x), .string (one p), .string z] 9))) := ⟨hB89.out.alloc hB89.out.size _⟩
              clear hTg hB89 hNum
              refine go_forced 13 (by kernel_rfl) (goOp_wp 13 rfl rfl (fun K hK => ?_))
              go_simp
              refine hF.mono ?_
              rintro e we ⟨rfl, hbe⟩
              refine hK _ _ True.intro ?_
              clear hK K hF
              have hBe : Box (Below w.heap.size w we) := ⟨hBt.out.trans (hbe.mono hBt.out.size)⟩
              clear hBt hbe
              refine go_calms [14, 15] 0 rfl (by kernel_rfl) (by kernel_rfl) (by kernel_rfl) True.intro ?_
              simp [nth]
              try simp only [Act.put]
              repeat (go_big_quiet_step (first | exact fun _ => rfl | rfl))
              refine wpQuiet_nil ?_
              refine go_done (by kernel_rfl) ?_
              go_simp
              go_wp2_with fail
              exact ⟨⟨k + 1, by omega, by rw [hy.out], by rw [hpv2.out], hBe⟩, by simp [intOf]; omega⟩
    · obtain rfl : k = c := by omega
      go_wp2_with fail
      go_ret
      exact ⟨rfl, hB.out⟩
end Go.Proofs.YtdjppgmaokcgiaaGreatDoor
