/- Walks of Number, Verify, and the layer's common example. -/
import Derived.Test.YtbnmdieadaeeiaaGreatDoorKyE
namespace Go.Proofs.YtbnmdieadaeeiaaGreatDoor
open Go Go.RowKit

theorem sgO_size (q : ByteArray) (h : sgOk q = true) : (sgO q).size = 288 := by
  obtain ⟨h1, h2, h3⟩ := (sgOk_iff q).1 h
  rw [sgO, ByteArray.size_extract]; omega
theorem sgB_size (q : ByteArray) (h : sgOk q = true) : (sgB q).size = 32 * sgH q := by
  obtain ⟨h1, h2, h3⟩ := (sgOk_iff q).1 h
  rw [sgB, ByteArray.size_extract]; omega
theorem txt_ne {a b : ByteArray} (h : ¬ a = b) : ¬ a.toList = b.toList := fun e => h (by
  rw [ByteArray.toList_eq, ByteArray.toList_eq] at e
  exact ByteArray.ext (Array.ext' e))
theorem pow2_lt (h : Nat) (hh : h ≤ 4) : 2 ^ h < 65536 := by have := pow_le h hh; omega
/-- A struct of four fields in a new block. -/
theorem sg_store (w w1 : World) (h n : Int) (o b : ByteArray) (hb : Below w.heap.size w w1) :
    Blk (w1.alloc (.cells #[.int .i64 h, .int .i64 n, .string o, .string b] 82)) w1.heap.size (scells h n o b) 82 ∧ Below w.heap.size w (w1.alloc (.cells #[.int .i64 h, .int .i64 n, .string o, .string b] 82)) :=
  ⟨Blk.new w1 (scells h n o b) _, hb.alloc hb.size _⟩

set_option maxHeartbeats 1600000 in
set_option maxRecDepth 100000 in
theorem number_key (q : ByteArray) (w : World) :
    Calls Tryz.prog 23 #[.string q] w fun e w' => e = .returned (.tuple #[.int .i64 ((numE q).1 : Int), .int .i64 (numE q).2]) ∧ Below w.heap.size w w' := by
  have hP := parse_any q w
  have hnot : ∀ (x : Bool) (w : World), (Op.unary .not (.bool x)).run Tryz.prog w = .ok (.bool (!x)) w := fun _ _ => rfl
  cases hq : sgOk q with
  | true =>
    rw [parseV, if_pos hq] at hP
    rw [numE, if_pos hq]
    have hS := fun w1 (hb : Below w.heap.size w w1) => sg_store w w1 (sgH q) (sgN q) (sgO q) (sgB q) hb
    unfold sgV at hP
    generalize (sgH q : Int) = H at hP hS
    generalize (sgN q : Int) = N at hP hS ⊢
    generalize sgO q = o at hP hS
    generalize sgB q = b at hP hS
    replace hS := Box.mk hS
    clear hq
    go_enter Tryz.func23, Tryz.ntmps23
    go_wp2_with fail
    refine hP.mono ?_
    clear hP
    rintro e w1 ⟨rfl, hb1⟩
    obtain ⟨h1, h2⟩ := hS.out w1 hb1
    replace h2 := Box.mk h2
    clear hS hb1 h1
    go_wp2_with fail
    go_returns
    exact ⟨rfl, h2.out⟩
  | false =>
    rw [parseV, hq, if_neg (by simp)] at hP
    rw [numE, hq, if_neg (by simp)]
    have hS := fun w1 (hb : Below w.heap.size w w1) => sg_store w w1 0 0 ⟨#[]⟩ ⟨#[]⟩ hb
    unfold sgV at hP
    replace hS := Box.mk hS
    clear hq
    go_enter Tryz.func23, Tryz.ntmps23
    go_wp2_with fail
    refine hP.mono ?_
    clear hP
    rintro e w1 ⟨rfl, hb1⟩
    obtain ⟨h1, h2⟩ := hS.out w1 hb1
    replace h2 := Box.mk h2
    clear hS hb1 h1
    go_wp2_with fail
    go_returns
    exact ⟨rfl, h2.out⟩
set_option maxHeartbeats 1600000 in
set_option maxRecDepth 100000 in
theorem verify_no (i t q : ByteArray) (w : World) (hq : sgOk q = false) :
    Calls Tryz.prog 14 #[.string i, .string t, .string q] w fun e w' => e = .returned (.int .i64 3) ∧ Below w.heap.size w w' := by
  have hP := parse_any q w
  have hnot : ∀ (x : Bool) (w : World), (Op.unary .not (.bool x)).run Tryz.prog w = .ok (.bool (!x)) w := fun _ _ => rfl
  rw [parseV, hq, if_neg (by simp)] at hP
  have hS := fun w1 (hb : Below w.heap.size w w1) => sg_store w w1 0 0 ⟨#[]⟩ ⟨#[]⟩ hb
  unfold sgV at hP
  replace hS := Box.mk hS
  clear hq
  go_enter Tryz.func14, Tryz.ntmps14
  go_wp2_with fail
  refine hP.mono ?_
  clear hP
  rintro e w1 ⟨rfl, hb1⟩
  obtain ⟨h1, h2⟩ := hS.out w1 hb1
  replace h2 := Box.mk h2
  clear hS hb1 h1
  go_wp2_with fail
  go_returns
  exact ⟨rfl, h2.out⟩
set_option maxHeartbeats 1600000 in
set_option maxRecDepth 100000 in
theorem verify_ok (i t q : ByteArray) (w : World) (hK : KIs w) (hq : sgOk q = true) (ht : t.size ≤ 1125899906842624) :
    Calls Tryz.prog 14 #[.string i, .string t, .string q] w fun e w' => e = .returned (.int .i64 (if idV (sgH q) (upV (recT (sgN q) t (sgO q)) (sgN q) (sgB q) (sgH q)) = i then 0 else 9)) ∧ Below w.heap.size w w' := by
  have hP := parse_any q w
  have hnot : ∀ (x : Bool) (w : World), (Op.unary .not (.bool x)).run Tryz.prog w = .ok (.bool (!x)) w := fun _ _ => rfl
  rw [parseV, if_pos hq] at hP
  obtain ⟨q1, q2, q3⟩ := (sgOk_iff q).1 hq
  have hp := pow2_lt (sgH q) q1
  have hS := fun w1 (hb : Below w.heap.size w w1) => sg_store w w1 (sgH q) (sgN q) (sgO q) (sgB q) hb
  have hR := fun w1 (hb : Below w.heap.size w w1) => recover_ok t (sgO q) (sgN q) w1 (hK.below hb hK.lt) (by omega) (sgO_size q hq) ht
  have hC := fun w1 (hb : Below w.heap.size w w1) => climb_any (recT (sgN q) t (sgO q)) (sgB q) (sgN q) (sgH q) w1 (hK.below hb hK.lt) (tagS_size _ _) (sgB_size q hq) q1 (by omega)
  have hI := fun w1 (hb : Below w.heap.size w w1) => id_any (sgH q) (upV (recT (sgN q) t (sgO q)) (sgN q) (sgB q) (sgH q)) w1 (hK.below hb hK.lt) (by omega) (upV_size _ _ _ (tagS_size _ _) _)
  unfold sgV at hP
  generalize idV (sgH q) (upV (recT (sgN q) t (sgO q)) (sgN q) (sgB q) (sgH q)) = y at hI ⊢
  generalize upV (recT (sgN q) t (sgO q)) (sgN q) (sgB q) (sgH q) = x at hC hI
  generalize recT (sgN q) t (sgO q) = r at hR hC
  generalize (sgH q : Int) = H at hP hS hI
  generalize (sgN q : Int) = N at hP hS hR hC
  generalize sgO q = o at hP hS hR
  generalize sgB q = b at hP hS hC
  replace hS := Box.mk hS
  replace hR := Box.mk hR
  replace hC := Box.mk hC
  replace hI := Box.mk hI
  clear hq hK ht q1 q2 q3 hp
  go_enter Tryz.func14, Tryz.ntmps14
  go_wp2_with fail
  refine hP.mono ?_
  clear hP
  rintro e w1 ⟨rfl, hb1⟩
  obtain ⟨h1, h2⟩ := hS.out w1 hb1
  have hF := hR.out _ h2
  obtain ⟨w2, hw2⟩ : ∃ w2, w1.alloc (.cells #[.int .i64 H, .int .i64 N, .string o, .string b] 82) = w2 := ⟨_, rfl⟩
  rw [hw2] at h1 h2 hF
  have c1 := h1.cell 1
  have c2 := h1.cell 2
  simp only [scells, List.getElem?_cons_zero, List.getElem?_cons_succ] at c1 c2
  obtain ⟨B, hBe⟩ : ∃ B, w1.heap.size = B := ⟨_, rfl⟩
  rw [hBe] at h1 c1 c2
  replace h1 := Box.mk h1
  replace h2 := Box.mk h2
  clear hS hb1 hR
  go_wp2_with fail
  refine hF.mono ?_
  clear hF
  rintro e w3 ⟨rfl, hb3⟩
  have hB3 : Below w.heap.size w w3 := mono_bel h2.out hb3 (Nat.le_refl _)
  have hD3 := h1.out.below hb3 h1.out.lt
  have d0 : w3.drew.cell? ⟨B, 0, none⟩ = some (.int .i64 H) := hD3.cell 0
  have d1 : w3.drew.cell? ⟨B, 1, none⟩ = some (.int .i64 N) := hD3.cell 1
  have d3 : w3.drew.cell? ⟨B, 3, none⟩ = some (.string b) := hD3.cell 3
  have hBd := hB3.trans ((dB w3).mono hB3.size)
  have hF := hC.out _ hBd
  replace hD3 := Box.mk (show Blk w3.drew B (scells H N o b) _ from hD3)
  replace hBd := Box.mk hBd
  clear h1 h2 hb3 hB3 hC c1 c2
  go_wp2_with fail
  refine region_go (C := fun w' => w'.cell? ⟨B, 0, none⟩ = some (.int .i64 H) ∧ w'.cell? ⟨B, 1, none⟩ = some (.int .i64 N) ∧ w'.cell? ⟨B, 3, none⟩ = some (.string b)) rfl ?_
  refine go_calms [0, 1, 2, 3, 4, 5, 6, 9] 3 rfl (by kernel_rfl) (by kernel_rfl) (by kernel_rfl) ⟨d0, d1, d3⟩ ?_
  simp [nth]
  try simp only [Act.put]
  refine quiet_any rfl (.pointer (some ⟨B, 0, none⟩)) (fun w' hw' => by have h := hw'.1; go_simp) ?_
  simp only [Act.put, List.setIfInBounds_toArray, List.set_cons_succ, List.set_cons_zero]
  refine quiet_any rfl (.int .i64 H) (fun w' hw' => by have h := hw'.1; go_simp) ?_
  simp only [Act.put, List.setIfInBounds_toArray, List.set_cons_succ, List.set_cons_zero]
  repeat (go_big_quiet_step (first | exact fun _ => rfl | rfl))
  refine quiet_any rfl (.pointer (some ⟨B, 1, none⟩)) (fun w' hw' => by have h := hw'.2.1; go_simp) ?_
  simp only [Act.put, List.setIfInBounds_toArray, List.set_cons_succ, List.set_cons_zero]
  refine quiet_any rfl (.int .i64 N) (fun w' hw' => by have h := hw'.2.1; go_simp) ?_
  simp only [Act.put, List.setIfInBounds_toArray, List.set_cons_succ, List.set_cons_zero]
  refine quiet_any rfl (.pointer (some ⟨B, 3, none⟩)) (fun w' hw' => by have h := hw'.2.2; go_simp) ?_
  simp only [Act.put, List.setIfInBounds_toArray, List.set_cons_succ, List.set_cons_zero]
  refine quiet_any rfl (.string b) (fun w' hw' => by have h := hw'.2.2; go_simp) ?_
  simp only [Act.put, List.setIfInBounds_toArray, List.set_cons_succ, List.set_cons_zero]
  repeat (go_big_quiet_step (first | exact fun _ => rfl | rfl))
  refine wpQuiet_nil ?_
  refine go_forced 7 (by kernel_rfl) (goOp_wp 7 rfl rfl (fun K hK => ?_))
  go_simp
  refine hF.mono ?_
  clear hF
  rintro e w4 ⟨rfl, hb4⟩
  have hB4 := hBd.out.trans (hb4.mono hBd.out.size)
  have hD4 := hD3.out.below hb4 hD3.out.lt
  refine hK _ _ ⟨hD4.cell 0, hD4.cell 1, hD4.cell 3⟩ ?_
  have hF := hI.out _ hB4
  replace hB4 := Box.mk hB4
  replace hD4 := Box.mk hD4
  clear hK K hb4 hD3 hBd hI d0 d1 d3
  refine go_forced 8 (by kernel_rfl) (goOp_wp 8 rfl rfl (fun K hK => ?_))
  go_simp
  refine hF.mono ?_
  clear hF
  rintro e w5 ⟨rfl, hb5⟩
  have hB5 := hB4.out.trans (hb5.mono hB4.out.size)
  have hD5 := hD4.out.below hb5 hD4.out.lt
  have C5 : w5.cell? ⟨B, 0, none⟩ = some (.int .i64 H) ∧ w5.cell? ⟨B, 1, none⟩ = some (.int .i64 N) ∧ w5.cell? ⟨B, 3, none⟩ = some (.string b) := ⟨hD5.cell 0, hD5.cell 1, hD5.cell 3⟩
  refine hK _ _ C5 ?_
  replace hB5 := Box.mk hB5
  clear hK K hb5 hD4 hB4 hD5
  by_cases he : y = i
  · subst he
    refine go_calms [10] 0 rfl (by kernel_rfl) (by kernel_rfl) (by kernel_rfl) C5 ?_
    simp [nth]
    try simp only [Act.put, List.setIfInBounds_toArray, List.set_cons_succ, List.set_cons_zero]
    refine quiet_any rfl (.bool false) (fun w' hw' => by go_simp) ?_
    simp only [Act.put, List.setIfInBounds_toArray, List.set_cons_succ, List.set_cons_zero]
    refine wpQuiet_nil ?_
    refine go_done (by kernel_rfl) ?_
    go_simp
    go_wp2_with fail
    go_returns
    exact ⟨by simp, hB5.out⟩
  · have he2 := txt_ne he
    refine go_calms [10] 0 rfl (by kernel_rfl) (by kernel_rfl) (by kernel_rfl) C5 ?_
    simp [nth]
    try simp only [Act.put, List.setIfInBounds_toArray, List.set_cons_succ, List.set_cons_zero]
    refine quiet_any rfl (.bool true) (fun w' hw' => by go_simp) ?_
    simp only [Act.put, List.setIfInBounds_toArray, List.set_cons_succ, List.set_cons_zero]
    refine wpQuiet_nil ?_
    refine go_done (by kernel_rfl) ?_
    go_simp
    go_wp2_with fail
    go_returns
    exact ⟨by simp, hB5.out⟩
theorem verify_any (i t q : ByteArray) (w : World) (hK : KIs w) (ht : t.size ≤ 1125899906842624) :
    Calls Tryz.prog 14 #[.string i, .string t, .string q] w fun e w' => e = .returned (.int .i64 (verE i t q)) ∧ Below w.heap.size w w' := by
  unfold verE
  cases hq : sgOk q with
  | true => simpa using verify_ok i t q w hK hq ht
  | false => simpa using verify_no i t q w hq
end Go.Proofs.YtbnmdieadaeeiaaGreatDoor
