/- Walks of the tree that is made once: the function that makes it, sync.Once's slow road and Do, nodes. -/
import Derived.Defers
import Derived.RegionCalls
import Derived.Test.YthnbhaffphopoaaGreatDoorHka
import Derived.Test.YthnbhaffphopoaaGreatDoorHl1
namespace Go.Proofs.YthnbhaffphopoaaGreatDoor
open Go Go.RowKit Go.MuLone

/-- A key's cells while its lock is held. -/
def lcells (s : ByteArray) (h u : Nat) (d : Int) (v : Value) : List Value := [.string s, .int .i64 (h : Int), .int .i64 (u : Int), .int .u32 d, .int .i32 1, .int .u32 0, v]

set_option maxHeartbeats 1600000 in
set_option maxRecDepth 100000 in
theorem grow_any (b : Nat) (pl : Addr) (s : ByteArray) (h u : Nat) (w : World) (hK : KIs w) (hs : s.size ≤ 1125899906842624) (hh : h ≤ 4)
    (hb : Blk w b (lcells s h u 0 (.slice none 0 0)) 189) (hp : w.cell? pl = some (.pointer (some ⟨b, 0, none⟩))) (hpb : pl.block ≠ b) :
    Calls Tryz.prog 214 #[.pointer (some pl)] w fun e w' => e = .returned (.tuple #[]) ∧ Blk w' w.heap.size (tcells s h) 9 ∧ Blk w' b (lcells s h u 0 (treeV h (some w.heap.size))) 189 ∧ Pk.Chg (fun i => i = b) w w' := by
  have hF := plant_any s h w.drew hK hs hh
  have hsz : w.drew.heap.size = w.heap.size := rfl
  rw [hsz] at hF
  have c0 : w.drew.cell? ⟨b, 0, none⟩ = some (.string s) := hb.cell 0
  have c1 : w.drew.cell? ⟨b, 1, none⟩ = some (.int .i64 (h : Int)) := hb.cell 1
  have cp : w.drew.cell? pl = some (.pointer (some ⟨b, 0, none⟩)) := hp
  have hlt := hb.lt
  have hplt : pl.block < w.heap.size := block_lt_of_cell hp
  obtain ⟨N, hN⟩ : ∃ N, 2 * 2 ^ h = N := ⟨_, rfl⟩
  have hv : treeV h (some w.heap.size) = .slice (some ⟨w.heap.size, 0, none⟩) N N := by rw [treeV, hN]
  rw [hv] at hF ⊢
  clear hN hv
  have hbB := Box.mk hb
  clear hb hK hs hh
  go_enter Tryz.func214, Tryz.ntmps214
  go_wp2_with fail
  refine region_go (C := fun w' => w'.cell? ⟨b, 0, none⟩ = some (.string s) ∧ w'.cell? ⟨b, 1, none⟩ = some (.int .i64 (h : Int)) ∧ w'.cell? pl = some (.pointer (some ⟨b, 0, none⟩))) rfl ?_
  refine go_calms [0, 1, 2, 3, 4, 5, 6, 7, 8] 4 rfl (by kernel_rfl) (by kernel_rfl) (by kernel_rfl) ⟨c0, c1, cp⟩ ?_
  simp [nth]
  try simp only [Act.put]
  refine quiet_any rfl (.pointer (some ⟨b, 0, none⟩)) (fun w' hw' => by have h := hw'.2.2; go_simp) ?_
  simp only [Act.put, List.setIfInBounds_toArray, List.set_cons_succ, List.set_cons_zero]
  refine quiet_any rfl (.pointer (some ⟨b, 0, none⟩)) (fun w' hw' => by have h := hw'.2.2; go_simp) ?_
  simp only [Act.put, List.setIfInBounds_toArray, List.set_cons_succ, List.set_cons_zero]
  refine quiet_any rfl (.pointer (some ⟨b, 0, none⟩)) (fun w' hw' => by have h := hw'.1; go_simp) ?_
  simp only [Act.put, List.setIfInBounds_toArray, List.set_cons_succ, List.set_cons_zero]
  refine quiet_any rfl (.pointer (some ⟨b, 0, none⟩)) (fun w' hw' => by have h := hw'.1; go_simp) ?_
  simp only [Act.put, List.setIfInBounds_toArray, List.set_cons_succ, List.set_cons_zero]
  refine quiet_any rfl (.string s) (fun w' hw' => by have h := hw'.1; go_simp) ?_
  simp only [Act.put, List.setIfInBounds_toArray, List.set_cons_succ, List.set_cons_zero]
  refine quiet_any rfl (.pointer (some ⟨b, 0, none⟩)) (fun w' hw' => by have h := hw'.2.2; go_simp) ?_
  simp only [Act.put, List.setIfInBounds_toArray, List.set_cons_succ, List.set_cons_zero]
  refine quiet_any rfl (.pointer (some ⟨b, 0, none⟩)) (fun w' hw' => by have h := hw'.1; go_simp) ?_
  simp only [Act.put, List.setIfInBounds_toArray, List.set_cons_succ, List.set_cons_zero]
  refine quiet_any rfl (.pointer (some ⟨b, 1, none⟩)) (fun w' hw' => by have h := hw'.2.1; go_simp) ?_
  simp only [Act.put, List.setIfInBounds_toArray, List.set_cons_succ, List.set_cons_zero]
  refine quiet_any rfl (.int .i64 (h : Int)) (fun w' hw' => by have h := hw'.2.1; go_simp) ?_
  simp only [Act.put, List.setIfInBounds_toArray, List.set_cons_succ, List.set_cons_zero]
  refine wpQuiet_nil ?_
  refine go_forced 9 (by kernel_rfl) (goOp_wp 9 rfl rfl (fun K hK => ?_))
  go_simp
  refine hF.mono ?_
  rintro e w2 ⟨rfl, hT2, hb2⟩
  have hb3 : Blk w2 b (lcells s h u 0 (.slice none 0 0)) 189 := (show Blk w.drew b _ _ from hbB.out).below hb2 hlt
  have C2 : w2.cell? ⟨b, 0, none⟩ = some (.string s) ∧ w2.cell? ⟨b, 1, none⟩ = some (.int .i64 (h : Int)) ∧ w2.cell? pl = some (.pointer (some ⟨b, 0, none⟩)) := ⟨hb3.cell 0, hb3.cell 1, (hb2.cell hplt).trans cp⟩
  refine hK _ _ C2 ?_
  clear hF hK K
  refine go_calms [10, 11] 1 rfl (by kernel_rfl) (by kernel_rfl) (by kernel_rfl) C2 ?_
  simp [nth]
  try simp only [Act.put, List.setIfInBounds_toArray, List.set_cons_succ, List.set_cons_zero]
  refine quiet_any rfl (.pointer (some ⟨b, 0, none⟩)) (fun w' hw' => by have h := hw'.1; go_simp) ?_
  simp only [Act.put, List.setIfInBounds_toArray, List.set_cons_succ, List.set_cons_zero]
  refine quiet_any rfl (.pointer (some ⟨b, 6, none⟩)) (fun w' hw' => by have h := hw'.1; go_simp) ?_
  simp only [Act.put, List.setIfInBounds_toArray, List.set_cons_succ, List.set_cons_zero]
  refine wpQuiet_nil ?_
  have hc : w2.cell? ⟨b, 6, none⟩ = some (.slice none 0 0) := hb3.cell 6
  have hfz := hb3.free 6
  have hb4 : Box (Blk (w2.setCell ⟨b, 6, none⟩ (.slice (some ⟨w.heap.size, 0, none⟩) N N)) b (lcells s h u 0 (.slice (some ⟨w.heap.size, 0, none⟩) N N)) 189) := ⟨hb3.setCell 6 (.slice (some ⟨w.heap.size, 0, none⟩) N N)⟩
  have hT4 : Box (Blk (w2.setCell ⟨b, 6, none⟩ (.slice (some ⟨w.heap.size, 0, none⟩) N N)) w.heap.size (tcells s h) 9) := ⟨by
    unfold Blk at hT2 ⊢
    rw [← hT2]; exact Below.heap_setCell _ _ _ _ (by simp; omega)⟩
  have hC4 : Box (Pk.Chg (fun i => i = b) w (w2.setCell ⟨b, 6, none⟩ (.slice (some ⟨w.heap.size, 0, none⟩) N N))) := ⟨((Pk.Chg.of_below ((dB w).trans hb2)).mono (T := fun i => i = b) fun i hi hb => absurd hi (by omega)).setCell (p := ⟨b, 6, none⟩) rfl _⟩
  have C3 : (w2.setCell ⟨b, 6, none⟩ (.slice (some ⟨w.heap.size, 0, none⟩) N N)).cell? ⟨b, 0, none⟩ = some (.string s) ∧ (w2.setCell ⟨b, 6, none⟩ (.slice (some ⟨w.heap.size, 0, none⟩) N N)).cell? ⟨b, 1, none⟩ = some (.int .i64 (h : Int)) ∧ (w2.setCell ⟨b, 6, none⟩ (.slice (some ⟨w.heap.size, 0, none⟩) N N)).cell? pl = some (.pointer (some ⟨b, 0, none⟩)) :=
    ⟨hb4.out.cell 0, hb4.out.cell 1, (World.cell?_setCell_other _ ⟨b, 6, none⟩ pl _ (fun e => hpb (by rw [← e]))).trans C2.2.2⟩
  clear hb2 hT2 hb3
  refine go_forced 12 (by kernel_rfl) (goOp_wp 12 rfl rfl (fun K hK => ?_))
  go_simp
  refine hK _ _ C3 ?_
  clear hK K
  refine go_done (by kernel_rfl) ?_
  go_simp
  go_end0
  exact ⟨rfl, hT4.out, hb4.out, hC4.out⟩
/-- '(*sync/atomic.Bool).Store(true)', entered as a deferred call. -/
theorem store_deferred (a : Addr) (x : Value) (u : FrameMode) (w : World) (hc : w.cell? a = some x) (hz : w.frozen? a = false) :
    CallsD Tryz.prog 319 #[.pointer (some a), .bool true] u w fun e u' w' => u' = u ∧ (e = .returned (.tuple #[]) ∧ w' = w.drew.setCell a (.int .u32 1)) := by
  have hc' : w.drew.cell? a = some x := by go_simp
  have hz' : w.drew.frozen? a = false := by go_simp
  have hst := run_call_store (P := Tryz.prog) Tryz.func346 (by kernel_rfl) (by kernel_rfl) (by kernel_rfl) (by kernel_rfl) (k := .u32) (y := 1) hc' hz'
  go_enter_d Tryz.func319, Tryz.ntmps319
  go_wp2
  go_region_calls
  all_goals (go_end0; exact ⟨rfl, rfl⟩)

set_option maxHeartbeats 1600000 in
set_option maxRecDepth 100000 in
theorem slow_any (b : Nat) (pl : Addr) (s : ByteArray) (h u : Nat) (w : World) (hK : KIs w) (hs : s.size ≤ 1125899906842624) (hh : h ≤ 4)
    (hb : Blk w b (kcells s h u 0 (.slice none 0 0)) 189) (hp : w.cell? pl = some (.pointer (some ⟨b, 0, none⟩))) (hpb : pl.block ≠ b) :
    Calls Tryz.prog 274 #[.pointer (some ⟨b, 3, none⟩), .func (.func 214) #[] #[.pointer (some pl)]] w fun e w' => e = .returned (.tuple #[]) ∧ Blk w' w.heap.size (tcells s h) 9 ∧ Blk w' b (kcells s h u 1 (treeV h (some w.heap.size))) 189 ∧ Pk.Chg (fun i => i = b) w w' := by
  have l0 : w.cell? ⟨b, 4, none⟩ = some (.int .i32 0) := hb.cell 4
  have lz : w.frozen? ⟨b, 4, none⟩ = false := hb.free 4
  obtain ⟨w1, hw1⟩ : ∃ w1, w.setCell ⟨b, 4, none⟩ (.int .i32 1) = w1 := ⟨_, rfl⟩
  have hb1 : Blk w1 b (lcells s h u 0 (.slice none 0 0)) 189 := by rw [← hw1]; exact hb.setCell 4 (.int .i32 1)
  have hC1 : Pk.Chg (fun i => i = b) w w1 := by rw [← hw1]; exact (Pk.Chg.refl (fun i => i = b) w).setCell (p := ⟨b, 4, none⟩) rfl _
  have hz1 : w1.heap.size = w.heap.size := by rw [← hw1]; simp
  have hp1 : w1.cell? pl = some (.pointer (some ⟨b, 0, none⟩)) := by rw [← hw1]; exact (World.cell?_setCell_other _ ⟨b, 4, none⟩ pl _ (fun e => hpb (by rw [← e]))).trans hp
  have hlk := lock_free Tryz.muLib ⟨b, 4, none⟩ w l0 lz
  rw [hw1] at hlk
  have hl := run_call_load (P := Tryz.prog) Tryz.func316 (by kernel_rfl) (by kernel_rfl) (by kernel_rfl) .u32 (by kernel_rfl) (show w1.cell? ⟨b, 3, none⟩ = some (.int .u32 0) from hb1.cell 3)
  have hG := grow_any b pl s h u w1 (hK.chg hC1 (fun e => hK.blk_ne hb e.symm)) hs hh hb1 hp1 hpb
  rw [hz1] at hG
  have hnot : ∀ (x : Bool) (w : World), (Op.unary .not (.bool x)).run Tryz.prog w = .ok (.bool (!x)) w := fun _ _ => rfl
  have hblt := hb.lt
  replace hC1 := Box.mk hC1
  replace hw1 := Box.mk hw1
  clear hb1 hp1 hK hp hb hs
  go_enter_defers Tryz.func274, Tryz.ntmps274
  go_wp2_with (first | (go_at_call 317; refine hlk.mono ?_; rintro e w' ⟨rfl, rfl⟩) | (go_at_call 214; refine hG.mono ?_; rintro e w2 ⟨rfl, hT, hb2, hC2⟩) | (go_at_call 273; go_in))
  have hT1 : Box (Blk w2 w.heap.size (tcells s h) 9) := ⟨hT⟩
  have hCC : Pk.Chg (fun i => i = b) w w2 := hC1.out.trans hC2 (fun i _ e => e)
  obtain ⟨v, hv⟩ : ∃ v, treeV h (some w.heap.size) = v := ⟨_, rfl⟩
  rw [hv] at hb2 ⊢
  have hb3 : Blk w2.drew b (lcells s h u 0 v) 189 := hb2
  have hb4 : Blk (w2.drew.setCell ⟨b, 3, none⟩ (.int .u32 1)) b (lcells s h u 1 v) 189 := hb3.setCell 3 (.int .u32 1)
  have hb5 : Blk ((w2.drew.setCell ⟨b, 3, none⟩ (.int .u32 1)).setCell ⟨b, 4, none⟩ (.int .i32 0)) b (kcells s h u 1 v) 189 := hb4.setCell 4 (.int .i32 0)
  refine leaves_cons (f := 319) (args := #[.pointer (some ⟨b, 3, none⟩), .bool true]) (by simp) (by simp [go_sem]) ?_
  refine (store_deferred ⟨b, 3, none⟩ (.int .u32 0) _ w2 (hb2.cell 3) (hb2.free 3)).mono ?_
  rintro e u' w'' ⟨rfl, rfl, rfl⟩
  refine leaves_cons (f := 318) (args := #[.pointer (some ⟨b, 4, none⟩)]) (by simp [settle]) (by simp [go_sem]) ?_
  refine (unlock_deferred Tryz.muLib ⟨b, 4, none⟩ _ _ (hb4.cell 4) (hb4.free 4)).mono ?_
  rintro e u' w'' ⟨rfl, rfl, rfl⟩
  have hfin : Blk ((w2.drew.setCell ⟨b, 3, none⟩ (.int .u32 1)).setCell ⟨b, 4, none⟩ (.int .i32 0)) w.heap.size (tcells s h) 9 ∧ Pk.Chg (fun i => i = b) w ((w2.drew.setCell ⟨b, 3, none⟩ (.int .u32 1)).setCell ⟨b, 4, none⟩ (.int .i32 0)) := by
    refine ⟨?_, ((hCC.drew).setCell (p := ⟨b, 3, none⟩) rfl _).setCell (p := ⟨b, 4, none⟩) rfl _⟩
    have h1 := hT1.out
    unfold Blk at h1 ⊢
    rw [← h1]
    refine (Below.heap_setCell _ _ _ _ ?_).trans ((Below.heap_setCell _ _ _ _ ?_).trans rfl) <;> (simp; omega)
  simp [Leaves, settle, results, Tryz.results274]
  exact ⟨hfin.1, hb5, hfin.2⟩

set_option maxHeartbeats 1600000 in
set_option maxRecDepth 100000 in
theorem do_first (b : Nat) (pl : Addr) (s : ByteArray) (h u : Nat) (w : World) (hK : KIs w) (hs : s.size ≤ 1125899906842624) (hh : h ≤ 4)
    (hb : Blk w b (kcells s h u 0 (.slice none 0 0)) 189) (hp : w.cell? pl = some (.pointer (some ⟨b, 0, none⟩))) (hpb : pl.block ≠ b) :
    Calls Tryz.prog 213 #[.pointer (some ⟨b, 3, none⟩), .func (.func 214) #[] #[.pointer (some pl)]] w fun e w' => e = .returned (.tuple #[]) ∧ Blk w' w.heap.size (tcells s h) 9 ∧ Blk w' b (kcells s h u 1 (treeV h (some w.heap.size))) 189 ∧ Pk.Chg (fun i => i = b) w w' := by
  have hl := run_call_load (P := Tryz.prog) Tryz.func316 (by kernel_rfl) (by kernel_rfl) (by kernel_rfl) .u32 (by kernel_rfl) (show w.cell? ⟨b, 3, none⟩ = some (.int .u32 0) from hb.cell 3)
  have hF := slow_any b pl s h u w hK hs hh hb hp hpb
  have hnot : ∀ (x : Bool) (w : World), (Op.unary .not (.bool x)).run Tryz.prog w = .ok (.bool (!x)) w := fun _ _ => rfl
  clear hb hp hK hs
  go_enter Tryz.func213, Tryz.ntmps213
  go_wp2_with (first | (go_at_call 274; refine hF.mono ?_; rintro e w2 ⟨rfl, hT, hb2, hC2⟩) | (go_at_call 273; go_in))
  go_end0
  exact ⟨rfl, hT, hb2, hC2⟩
set_option maxHeartbeats 800000 in
theorem do_done (a : Addr) (fv : Value) (w : World) (h0 : w.cell? a = some (.int .u32 1)) :
    Calls Tryz.prog 213 #[.pointer (some a), fv] w fun e w' => e = .returned (.tuple #[]) ∧ w' = w := by
  have hl := run_call_load (P := Tryz.prog) Tryz.func316 (by kernel_rfl) (by kernel_rfl) (by kernel_rfl) .u32 (by kernel_rfl) h0
  have hnot : ∀ (x : Bool) (w : World), (Op.unary .not (.bool x)).run Tryz.prog w = .ok (.bool (!x)) w := fun _ _ => rfl
  go_enter Tryz.func213, Tryz.ntmps213
  go_wp2
  go_end0
  exact ⟨rfl, rfl⟩

set_option maxHeartbeats 1600000 in
set_option maxRecDepth 100000 in
theorem nodes_first (b : Nat) (s : ByteArray) (h u : Nat) (w : World) (k : KeyAt w b none s h u) (hK : KIs w) (hs : s.size ≤ 1125899906842624) :
    Calls Tryz.prog 135 #[.pointer (some ⟨b, 0, none⟩)] w fun e w' => e = .returned (treeV h (some (w.heap.size + 1))) ∧ KeyAt w' b (some (w.heap.size + 1)) s h u ∧ Pk.Chg (fun i => i = b) w w' := by
  have hmf : ∀ (fn : Fn) (first cap : Array Value) (w : World), (Instr.makeFunc fn first cap).run Tryz.prog w = .ok (.func fn first cap) w := fun _ _ _ _ => rfl
  have hlt := k.lt
  obtain ⟨w1, hw1⟩ : ∃ w1, w.alloc (.cells #[.pointer (some ⟨b, 0, none⟩)] 103) = w1 := ⟨_, rfl⟩
  have hB1 : Below w.heap.size w w1 := by rw [← hw1]; exact (Below.refl _ _).alloc (Nat.le_refl _) _
  have hz1 : w1.heap.size = w.heap.size + 1 := by rw [← hw1]; simp
  have hb1 : Blk w1 b (kcells s h u 0 (.slice none 0 0)) 189 := k.blk.below hB1 hlt
  have hp1 : w1.cell? ⟨w.heap.size, 0, none⟩ = some (.pointer (some ⟨b, 0, none⟩)) := by rw [← hw1]; exact World.cell?_alloc_at _ _ _ _ rfl
  have hF := do_first b ⟨w.heap.size, 0, none⟩ s h u w1 (hK.below hB1 hK.lt) hs k.low hb1 hp1 (by simp; omega)
  rw [hz1] at hF
  have hlow := k.low
  obtain ⟨N, hN⟩ : ∃ N, 2 * 2 ^ h = N := ⟨_, rfl⟩
  have hv : treeV h (some (w.heap.size + 1)) = .slice (some ⟨w.heap.size + 1, 0, none⟩) N N := by rw [treeV, hN]
  have hkk : ∀ w', Blk w' (w.heap.size + 1) (tcells s h) 9 → Blk w' b (kcells s h u 1 (.slice (some ⟨w.heap.size + 1, 0, none⟩) N N)) 189 → KeyAt w' b (some (w.heap.size + 1)) s h u := fun w' h1 h2 =>
    ⟨by rw [hv]; exact h2, fun t e => (by cases e; exact ⟨by omega, h1⟩), hlow⟩
  rw [hv] at hF ⊢
  replace hkk := Box.mk hkk
  replace hB1 := Box.mk hB1
  clear k hK hs hb1 hN hv hlow
  go_enter Tryz.func135, Tryz.ntmps135
  go_wp2_with fail
  refine hF.mono ?_
  rintro e w2 ⟨rfl, hT, hb2, hC2⟩
  clear hF
  have c6 : w2.cell? ⟨b, 6, none⟩ = some (.slice (some ⟨w.heap.size + 1, 0, none⟩) N N) := hb2.cell 6
  have hp2 : w2.cell? ⟨w.heap.size, 0, none⟩ = some (.pointer (some ⟨b, 0, none⟩)) := by
    rw [← hp1]
    unfold World.cell?
    rw [hC2.block w.heap.size (by omega) (by omega)]
  have hfin := Box.mk (hkk.out w2 hT hb2)
  have hC : Box (Pk.Chg (fun i => i = b) w w2) := ⟨(chg0 hB1.out).trans hC2 (fun i _ e => e)⟩
  clear hT hb2 hC2 hkk
  go_wp2_with fail
  go_ret
  exact ⟨rfl, hfin.out, hC.out⟩
set_option maxHeartbeats 1600000 in
set_option maxRecDepth 100000 in
theorem nodes_again (b t : Nat) (s : ByteArray) (h u : Nat) (w : World) (k : KeyAt w b (some t) s h u) :
    Calls Tryz.prog 135 #[.pointer (some ⟨b, 0, none⟩)] w fun e w' => e = .returned (treeV h (some t)) ∧ Below w.heap.size w w' := by
  have hmf : ∀ (fn : Fn) (first cap : Array Value) (w : World), (Instr.makeFunc fn first cap).run Tryz.prog w = .ok (.func fn first cap) w := fun _ _ _ _ => rfl
  have hlt := k.lt
  obtain ⟨w1, hw1⟩ : ∃ w1, w.alloc (.cells #[.pointer (some ⟨b, 0, none⟩)] 103) = w1 := ⟨_, rfl⟩
  have hB1 : Below w.heap.size w w1 := by rw [← hw1]; exact (Below.refl _ _).alloc (Nat.le_refl _) _
  have hb1 : Blk w1 b (kcells s h u 1 (treeV h (some t))) 189 := k.blk.below hB1 hlt
  obtain ⟨N, hN⟩ : ∃ N, 2 * 2 ^ h = N := ⟨_, rfl⟩
  have hv : treeV h (some t) = .slice (some ⟨t, 0, none⟩) N N := by rw [treeV, hN]
  rw [hv] at hb1 ⊢
  have hp1 : w1.cell? ⟨w.heap.size, 0, none⟩ = some (.pointer (some ⟨b, 0, none⟩)) := by rw [← hw1]; exact World.cell?_alloc_at _ _ _ _ rfl
  have hF := do_done ⟨b, 3, none⟩ (.func (.func 214) #[] #[.pointer (some ⟨w.heap.size, 0, none⟩)]) w1 (hb1.cell 3)
  have c6 : w1.cell? ⟨b, 6, none⟩ = some (.slice (some ⟨t, 0, none⟩) N N) := hb1.cell 6
  replace hB1 := Box.mk hB1
  clear k hb1 hN hv
  go_enter Tryz.func135, Tryz.ntmps135
  go_wp2_with fail
  refine hF.mono ?_
  rintro e w2 ⟨rfl, rfl⟩
  clear hF
  go_wp2_with fail
  go_ret
  exact ⟨rfl, hB1.out⟩
/-- A key behind a call that needed its tree: the same key, the tree there. -/
structure Grown (w : World) (b : Nat) (O : Option Nat) (s : ByteArray) (h u t : Nat) (w' : World) : Prop where
  at_ : KeyAt w' b (some t) s h u
  from_ : O = some t ∨ O = none ∧ w.heap.size ≤ t
  chg : Pk.Chg (fun i => i = b) w w'
theorem nodes_any (b : Nat) (O : Option Nat) (s : ByteArray) (h u : Nat) (w : World) (k : KeyAt w b O s h u) (hK : KIs w) (hs : s.size ≤ 1125899906842624) :
    Calls Tryz.prog 135 #[.pointer (some ⟨b, 0, none⟩)] w fun e w' => ∃ t, e = .returned (treeV h (some t)) ∧ Grown w b O s h u t w' := by
  cases O with
  | none => exact (nodes_first b s h u w k hK hs).mono fun e w' ⟨h1, h2, h3⟩ => ⟨_, h1, h2, .inr ⟨rfl, by omega⟩, h3⟩
  | some t => exact (nodes_again b t s h u w k).mono fun e w' ⟨h1, h2⟩ => ⟨t, h1, k.here h2, .inl rfl, chg0 h2⟩
end Go.Proofs.YthnbhaffphopoaaGreatDoor
