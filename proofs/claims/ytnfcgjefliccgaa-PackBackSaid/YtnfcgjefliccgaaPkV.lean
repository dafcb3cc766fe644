/- Walks of the document's writer. -/
import Derived.Test.YtnfcgjefliccgaaPkC
import Derived.Test.YtnfcgjefliccgaaQg
namespace Go.Proofs.Ytnfcgjefliccgaa
open Go.RowKit

set_option maxHeartbeats 800000 in
set_option maxRecDepth 100000 in
theorem num01_any (x k : Nat) (w : World) (hk : k ≤ 8) :
    Calls Try.prog 47 #[.slice none 0 0, .int .u64 (x : Int), .int .i64 (k : Int)] w
      fun e w' => ∃ v', e = .returned v' ∧ Own w' v' (beN x k) ∧ Below w.heap.size w w' := by
  go_enter Try.func47, Try.ntmps47
  go_wp2_with fail
  go_loopw [0, 7] (fun s0 q wr => ∃ (i : Nat) (p : List UInt8), i ≤ k ∧ q = .int .i64 ((i : Int) - 1) ∧ Box (p ++ beN x i = beN x k) ∧ Box (p.length + i = k) ∧ Box (Own wr s0 p) ∧ Box (∀ j, s0.ownBlock = some j → w.heap.size ≤ j) ∧ Box (Below w.heap.size w wr)) (fun _ q _ => (intOf q + 1).toNat)
  case atStart => exact ⟨k, [], Nat.le_refl _, rfl, ⟨rfl⟩, ⟨by simp⟩, ⟨Own.nil _⟩, ⟨fun j hj => by cases hj⟩, ⟨Below.refl _ _⟩⟩
  case round =>
    obtain ⟨i, p, hi, rfl, hp, hpl, hO, hj, hB⟩ := hrel
    by_cases h0 : 0 < i
    · obtain ⟨j, rfl⟩ : ∃ j, i = j + 1 := ⟨i - 1, by omega⟩
      obtain ⟨d, hd⟩ : ∃ d, UInt8.ofNat (x / 2 ^ (8 * j) % 256) = d := ⟨_, rfl⟩
      have hcv : (x : Int) / 2 ^ (8 * j) % 256 = (d.toNat : Int) := by
        rw [← hd, UInt8.toNat_ofNat']
        have h1 : x / 2 ^ (8 * j) % 256 % 2 ^ 8 = x / 2 ^ (8 * j) % 256 := Nat.mod_eq_of_lt (by omega)
        rw [h1]; simp
      replace hd := Box.mk hd
      have hO2 : Box (Own (wr.alloc (.cells #[Value.int .u8 (d.toNat : Int)] 5)) u0 p) := ⟨hO.out.chg ((Chg.refl (fun _ => False) _).alloc _) fun _ _ h => h⟩
      have hB2 : Box (Below w.heap.size w (wr.alloc (.cells #[Value.int .u8 (d.toNat : Int)] 5))) := ⟨hB.out.alloc hB.out.size _⟩
      have hnw := Box.mk (byte_new wr d)
      have hcap : Box (p.length + [d].length ≤ 70368744177664) := ⟨by have := hpl.out; simp only [List.length_cons, List.length_nil]; omega⟩
      clear hO
      go_wp2_with (refine wpList_pushB rfl (.tmp 14) (.tmp 20) rfl u0 p rfl hO2.out wr.heap.size 1 [d] rfl hnw.out hcap.out ?_; intro v2 w2 hp2; replace hp2 := Box.mk hp2)
      have hm : (intOf (Value.int IntKind.i64 ((j : Int) - 1)) + 1).toNat < (intOf (Value.int IntKind.i64 (((j + 1 : Nat) : Int) - 1)) + 1).toNat := by simp [intOf]
      refine ⟨⟨j, p ++ [d], by omega, by go_num, ⟨?_⟩, ⟨?_⟩, ⟨hp2.out.own⟩, ⟨fun q hq => ?_⟩, ⟨hB2.out.trans (hp2.out.chg.below hB2.out.size hj.out)⟩⟩, hm⟩
      · rw [← hp.out, beN, hd.out, List.append_assoc]; rfl
      · have := hpl.out; rw [List.length_append]; simp only [List.length_cons, List.length_nil]; omega
      · rcases hp2.out.place q hq with h | h
        · exact hj.out q h
        · have := hB2.out.size; omega
    · obtain rfl : i = 0 := by omega
      have hp' := hp.out
      rw [beN, List.append_nil] at hp'
      rw [hp'] at hO
      go_wp2_with fail
      go_ret
      exact ⟨_, rfl, hO.out, hB.out⟩
def bstr (l : List UInt8) : ByteArray := ⟨l.toArray⟩
set_option maxHeartbeats 400000 in
theorem numb01_any (x k : Nat) (w : World) (hk : k ≤ 8) :
    Calls Try.prog 46 #[.int .u64 (x : Int), .int .i64 (k : Int)] w
      fun e w' => e = .returned (.string (bstr (beN x k))) ∧ Below w.heap.size w w' := by
  have h1 := num01_any x k w hk
  go_enter Try.func46, Try.ntmps46
  go_wp2_with fail
  refine h1.mono ?_
  rintro e w1 ⟨v1, rfl, hO, hB⟩
  have hcv := own_text hO
  replace hcv := Box.mk hcv
  replace hB := Box.mk hB
  clear h1 hO
  go_wp2_with fail
  rw [hcv.out]
  go_wp2_with fail
  go_returns
  exact ⟨rfl, hB.out⟩

set_option maxHeartbeats 1600000 in
set_option maxRecDepth 100000 in
theorem xnum_bad (b : Nat) (v : Value) (l : List UInt8) (bad : Bool) (n : Int) (k : Nat) (w : World) (hk : k = 1 ∨ k = 2 ∨ k = 4 ∨ k = 8) (hn : -9223372036854775808 ≤ n ∧ n ≤ 9223372036854775807) (hW : WAt w b 28 v l bad) (hf : fits n k = false) :
    Calls Try.prog 30 #[.pointer (some ⟨b, 0, none⟩), .int .i64 n, .int .i64 (k : Int)] w fun e w' => e = .returned (.tuple #[]) ∧ WNext w b 28 v l true w' := by
  have c1 : w.cell? ⟨b, 1, none⟩ = some (.bool bad) := hW.blk.cell 1
  have f1 := hW.blk.free 1
  replace hW := Box.mk hW
  by_cases h0 : n < 0
  · go_enter Try.func30, Try.ntmps30
    go_wp2_with fail
    go_returns
    exact ⟨rfl, WNext.setBad hW.out (by decide) true⟩
  · obtain rfl | rfl | rfl | rfl := hk
    · have hge : 256 ≤ n := by simp [fits] at hf; omega
      clear hf
      go_enter Try.func30, Try.ntmps30
      go_wp2_with fail
      go_returns
      exact ⟨rfl, WNext.setBad hW.out (by decide) true⟩
    · have hge : 65536 ≤ n := by simp [fits] at hf; omega
      clear hf
      go_enter Try.func30, Try.ntmps30
      go_wp2_with fail
      go_returns
      exact ⟨rfl, WNext.setBad hW.out (by decide) true⟩
    · have hge : 4294967296 ≤ n := by simp [fits] at hf; omega
      clear hf
      go_enter Try.func30, Try.ntmps30
      go_wp2_with fail
      go_returns
      exact ⟨rfl, WNext.setBad hW.out (by decide) true⟩
    · exfalso; simp [fits] at hf; omega
set_option maxHeartbeats 1600000 in
set_option maxRecDepth 100000 in
theorem xnum_fit (b : Nat) (v : Value) (l : List UInt8) (bad : Bool) (n k : Nat) (w : World) (hk : k = 1 ∨ k = 2 ∨ k = 4 ∨ k = 8) (hn : n ≤ 9223372036854775807) (hW : WAt w b 28 v l bad) (hf : fits n k = true) (hlen : l.length ≤ 35184372088832) :
    Calls Try.prog 30 #[.pointer (some ⟨b, 0, none⟩), .int .i64 (n : Int), .int .i64 (k : Int)] w fun e w' => e = .returned (.tuple #[]) ∧ WNext w b 28 v (l ++ beN n k) bad w' := by
  have hwn : IntKind.u64.wrap (n : Int) = (n : Int) := by rw [IntKind.wrap_u64]; omega
  have hNum := fun w => numb01_any n k w (by omega)
  have hcap : Box (l.length + (bstr (beN n k)).size ≤ 70368744177664) := ⟨by show l.length + (beN n k).length ≤ _; rw [beN_length]; omega⟩
  have hbd : Box ((bstr (beN n k)).data.toList = beN n k) := ⟨rfl⟩
  generalize bstr (beN n k) = q at hNum hcap hbd
  replace hbd := hbd.out
  obtain ⟨B, hB⟩ : ∃ B, beN n k = B := ⟨_, rfl⟩
  rw [hB] at hbd ⊢
  replace hbd := Box.mk hbd
  replace hW := Box.mk hW
  obtain ⟨a1, c1, rfl⟩ := hW.out.own.shape
  obtain rfl | rfl | rfl | rfl := hk
  all_goals
    have hlt := hf
    simp [fits] at hlt
    clear hf hB
    go_enter Try.func30, Try.ntmps30
    go_wp2_with fail
    have hWd : Box (WAt w.drew b 28 (.slice a1 l.length c1) l bad) := ⟨hW.out.drew⟩
    have hCd : Box (Chg (fun i => i = b ∨ (Value.slice a1 l.length c1).ownBlock = some i) w w.drew) := ⟨(Chg.refl _ _).drew⟩
    refine region_go (C := fun _ => True) rfl ?_
    generalize w.drew = wd at hWd hCd ⊢
    clear hW
    have k0 : wd.cell? ⟨b, 0, none⟩ = some (.slice a1 l.length c1) := hWd.out.blk.cell 0
    refine go_calms [0, 1, 2, 3, 5, 6, 7] 6 rfl (by kernel_rfl) (by kernel_rfl) (by kernel_rfl) True.intro ?_
    simp [nth]
    repeat (go_big_quiet_step (first | exact fun _ => rfl | rfl))
    refine wpQuiet_nil ?_
    refine go_fork 4 8 (by kernel_rfl) (goOp_wp 4 rfl rfl (fun K hK => ?_)) (goOp_wp 8 rfl rfl (fun K hK => ?_))
    · go_simp
      refine hK _ _ True.intro ?_
      clear hK K
      refine go_forced 8 (by kernel_rfl) (goOp_wp 8 rfl rfl (fun K hK => ?_))
      go_simp
      refine (hNum wd).mono ?_
      rintro e w1 ⟨rfl, hb1⟩
      refine hK _ _ True.intro ?_
      clear hK K k0
      have hcb := Chg.of_below hb1
      have hA1 := Box.mk (hWd.out.chg hcb (by have := hWd.out.blk.lt; omega) (fun j hj => by have := hWd.out.own.lt j hj; omega))
      have hC1 := Box.mk (hCd.out.trans hcb (fun i hi hb => by have := hCd.out.size; omega))
      clear hcb hb1 hWd hCd
      refine go_forced 9 (by kernel_rfl) (goOp_wp 9 rfl rfl (fun K hK => ?_))
      refine wp_pushS (.tmp 26) (.tmp 30) rfl (.slice a1 l.length c1) l rfl hA1.out.own q rfl hcap.out ?_
      intro v2 w2 hp2
      obtain ⟨a2, c2, rfl⟩ := hp2.own.shape
      rw [show (l ++ q.data.toList).length = l.length + q.size by rw [List.length_append, data_len]] at hp2 ⊢
      obtain ⟨k2, k3⟩ := hA1.out.after (by decide) hp2
      replace hp2 := Box.mk hp2
      refine hK _ _ True.intro ?_
      clear hK K
      simp only [Act.put, List.setIfInBounds_toArray]
      refine go_calms [10, 11] 1 rfl (by kernel_rfl) (by kernel_rfl) (by kernel_rfl) True.intro ?_
      simp [nth]
      repeat (go_big_quiet_step (first | exact fun _ => rfl | rfl))
      refine wpQuiet_nil ?_
      refine go_forced 12 (by kernel_rfl) (goOp_wp 12 rfl rfl (fun K hK => ?_))
      go_simp
      refine hK _ _ True.intro ?_
      clear hK K
      refine go_done (by kernel_rfl) ?_
      go_wp2_with fail
      go_returns
      refine ⟨rfl, ?_⟩
      have hS := WNext.trans hA1.out hC1.out (fun k hk => .inl hk) (hA1.out.store (by decide) hp2.out)
      rw [hbd.out] at hS
      exact hS
    · go_simp
      refine (hNum wd).mono ?_
      rintro e w1 ⟨rfl, hb1⟩
      refine hK _ _ True.intro ?_
      clear hK K k0
      have hcb := Chg.of_below hb1
      have hA1 := Box.mk (hWd.out.chg hcb (by have := hWd.out.blk.lt; omega) (fun j hj => by have := hWd.out.own.lt j hj; omega))
      have hC1 := Box.mk (hCd.out.trans hcb (fun i hi hb => by have := hCd.out.size; omega))
      have k0 : w1.cell? ⟨b, 0, none⟩ = some (.slice a1 l.length c1) := hA1.out.blk.cell 0
      clear hcb hb1 hWd hCd
      refine go_forced 4 (by kernel_rfl) (goOp_wp 4 rfl rfl (fun K hK => ?_))
      go_simp
      refine hK _ _ True.intro ?_
      clear hK K
      refine go_forced 9 (by kernel_rfl) (goOp_wp 9 rfl rfl (fun K hK => ?_))
      refine wp_pushS (.tmp 26) (.tmp 30) rfl (.slice a1 l.length c1) l rfl hA1.out.own q rfl hcap.out ?_
      intro v2 w2 hp2
      obtain ⟨a2, c2, rfl⟩ := hp2.own.shape
      rw [show (l ++ q.data.toList).length = l.length + q.size by rw [List.length_append, data_len]] at hp2 ⊢
      obtain ⟨k2, k3⟩ := hA1.out.after (by decide) hp2
      replace hp2 := Box.mk hp2
      refine hK _ _ True.intro ?_
      clear hK K
      simp only [Act.put, List.setIfInBounds_toArray]
      refine go_calms [10, 11] 1 rfl (by kernel_rfl) (by kernel_rfl) (by kernel_rfl) True.intro ?_
      simp [nth]
      repeat (go_big_quiet_step (first | exact fun _ => rfl | rfl))
      refine wpQuiet_nil ?_
      refine go_forced 12 (by kernel_rfl) (goOp_wp 12 rfl rfl (fun K hK => ?_))
      go_simp
      refine hK _ _ True.intro ?_
      clear hK K
      refine go_done (by kernel_rfl) ?_
      go_wp2_with fail
      go_returns
      refine ⟨rfl, ?_⟩
      have hS := WNext.trans hA1.out hC1.out (fun k hk => .inl hk) (hA1.out.store (by decide) hp2.out)
      rw [hbd.out] at hS
      exact hS
end Go.Proofs.Ytnfcgjefliccgaa
