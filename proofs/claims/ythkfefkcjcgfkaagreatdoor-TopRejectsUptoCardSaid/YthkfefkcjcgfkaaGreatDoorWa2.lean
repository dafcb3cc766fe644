/- Walks of the scalar functions of package sha: a word turned, and the sums of turned words. No conditions. | A region that draws its order, whose operations but the last few read or call quietly, the last few standing in one forced order behind all the others: one walk in the order of the text serves every order. The class of worlds is a parameter. No program is named. | Walk of sha.spread: the words of a block. -/
import Derived.WalkKit
import Derived.WalkSpells
import Derived.WalkLawsBesides
import Derived.Deep.QuietTactic
import Derived.BigQuiet
import Derived.Laws.BytesArg
import Derived.IntWalk
import Derived.StillTailTactics
import Derived.Lib.Hide
import Derived.Test.YthkfefkcjcgfkaaGreatDoorRows
import Derived.Test.YthkfefkcjcgfkaaGreatDoorWa1
set_option linter.all false
namespace Go.Proofs.YthkfefkcjcgfkaaGreatDoor
open Go.RowKit

set_option maxHeartbeats 400000 in
theorem rot_nat (n : Nat) (x : BitVec 32) (w : World) (hn : 1 ≤ n ∧ n ≤ 31) :
    Calls Tryz.prog 171 #[.int .u32 (U x), .int .i64 (-(n : Int))] w fun e w' => e = .returned (.int .u32 (U (rotr x n))) ∧ w = w' := by
  have h1 : bits .and .u64 (IntKind.u64.wrap (-(n : Int))) 31 = 32 - (n : Int) := by
    obtain ⟨a, b⟩ := hn
    have : ∀ m : Fin 32, 1 ≤ m.val → bits .and .u64 (IntKind.u64.wrap (-(m.val : Int))) 31 = 32 - (m.val : Int) := by decide
    exact this ⟨n, by omega⟩ a
  have h2 := U_shl x (32 - n) (2 ^ (32 - n)) (by simp)
  have h3 := U_shr x n (2 ^ n) (by simp)
  have h4 := U_or
  have h6 : (min (32 - (n : Int)).toNat 32) = 32 - n := by omega
  have h7 : (min (n : Int).toNat 32) = n := by omega
  have h8 : (32 - (32 - (n : Int))) = n := by omega
  go_enter Tryz.func171, Tryz.ntmps171
  go_wp2
  go_ret
  exact ⟨rfl, rfl⟩
theorem rot_by (k : Int) (x : BitVec 32) (w : World) (hn : -31 ≤ k ∧ k ≤ -1) :
    Calls Tryz.prog 171 #[.int .u32 (U x), .int .i64 k] w fun e w' => e = .returned (.int .u32 (U (rotr x (-k).toNat))) ∧ w = w' := by
  obtain ⟨n, rfl⟩ : ∃ n : Nat, k = -(n : Int) := ⟨(-k).toNat, by omega⟩
  have : (- -(n : Int)).toNat = n := by omega
  rw [this]
  exact rot_nat n x w (by omega)

set_option maxHeartbeats 400000 in
theorem turns_S1 (x : BitVec 32) (w : World) :
    Calls Tryz.prog 165 #[.int .u32 (U x), .int .i64 6, .int .i64 11, .int .i64 25] w fun e w' => e = .returned (.int .u32 (U (S1 x))) ∧ w = w' := by
  have h4 := U_xor
  go_enter Tryz.func165, Tryz.ntmps165
  go_wp2_with (go_at_call 171; refine (rot_by _ _ _ (by omega)).mono ?_; rintro e w' ⟨rfl, rfl⟩)
  go_ret
  exact ⟨rfl, rfl⟩
set_option maxHeartbeats 400000 in
theorem turns_S0 (x : BitVec 32) (w : World) :
    Calls Tryz.prog 165 #[.int .u32 (U x), .int .i64 2, .int .i64 13, .int .i64 22] w fun e w' => e = .returned (.int .u32 (U (S0 x))) ∧ w = w' := by
  have h4 := U_xor
  go_enter Tryz.func165, Tryz.ntmps165
  go_wp2_with (go_at_call 171; refine (rot_by _ _ _ (by omega)).mono ?_; rintro e w' ⟨rfl, rfl⟩)
  go_ret
  exact ⟨rfl, rfl⟩
theorem quiet_same {P : Program} {f : FuncId} {args : Array Value} {w : World} {n : Nat} {v : Value}
    (h : Calls P f args (w.drewN n) fun e w' => e = .returned v ∧ w.drewN n = w') : Calls P f args (w.drewN n) fun e w'' => e = .returned v ∧ ∃ m, w'' = w.drewN m :=
  h.mono fun _ _ ⟨he, hm⟩ => ⟨he, n, hm.symm⟩

set_option maxHeartbeats 400000 in
theorem shift_any (i j k : Int) (x : BitVec 32) (w : World) (hi : 1 ≤ i ∧ i ≤ 31) (hj : 1 ≤ j ∧ j ≤ 31) (hk : 1 ≤ k ∧ k ≤ 31) :
    Calls Tryz.prog 170 #[.int .u32 (U x), .int .i64 i, .int .i64 j, .int .i64 k] w fun e w' => e = .returned (.int .u32 (U (sft x i j k))) ∧ ∃ n, w' = w.drewN n := by
  have h4 := U_xor
  have e3 : min k.toNat 32 = k.toNat := by omega
  have e0 : 0 ≤ k := by omega
  have h3 := U_shr x k.toNat (2 ^ k.toNat) (by simp)
  have e1 : IntKind.i64.wrap (-i) = -i := IntWalk.i64_in _ (by omega)
  have e2 : IntKind.i64.wrap (-j) = -j := IntWalk.i64_in _ (by omega)
  have e4 : - -i = i := by omega
  have e5 : - -j = j := by omega
  go_enter Tryz.func170, Tryz.ntmps170
  go_wp2
  go_quiet ((go_at_call 171; exact quiet_same (rot_by _ _ _ (by omega))))
  go_wp2
  go_ret
  exact ⟨rfl, _, rfl⟩

/-- The four bytes of a word. -/
def bytes4 (x : BitVec 32) : List Int := [U (x >>> 24) % 256, U (x >>> 16) % 256, U (x >>> 8) % 256, U x % 256]
set_option maxHeartbeats 400000 in
theorem four_any (x : BitVec 32) (w : World) :
    Calls Tryz.prog 166 #[.int .u32 (U x)] w fun e w' => e = .returned (.string (strOfNums (bytes4 x))) ∧ Below w.heap.size w w' := by
  have h1 := U_shr x 24 16777216 (by decide)
  have h2 := U_shr x 16 65536 (by decide)
  have h3 := U_shr x 8 256 (by decide)
  have hb := run_convert_bytes_arg (P := Tryz.prog) (w.alloc (Obj.cells
              #[Value.int IntKind.u8 (U (x >>> 24) % 256), Value.int IntKind.u8 (U (x >>> 16) % 256),
                Value.int IntKind.u8 (U (x >>> 8) % 256), Value.int IntKind.u8 (U x % 256)] 5)) 63 5 Tryz.underlying63 Tryz.underlying5 w.heap.size 0 4 4 (bytes4 x) rfl
      (fun i hi => by
        obtain rfl | rfl | rfl | rfl : i = 0 ∨ i = 1 ∨ i = 2 ∨ i = 3 := by omega
        all_goals simp [bytes4, World.cell?_alloc_at]) 9 Tryz.underlying9
  go_enter Tryz.func166, Tryz.ntmps166
  go_wp2
  go_ret
  exact ⟨rfl, (Below.refl _ _).alloc (Nat.le_refl _) _⟩
set_option maxHeartbeats 400000 in
theorem first_any (w : World) :
    Calls Tryz.prog 163 #[] w fun e w' => e = .returned (.agg (first8.map (fun x => Value.int .u32 (U x))).toArray) ∧ w' = w.alloc (Obj.cells (first8.map (fun x => Value.int .u32 (U x))).toArray 166) := by
  have e : (first8.map (fun x => Value.int .u32 (U x))).toArray =  #[Value.int IntKind.u32 1779033703, Value.int IntKind.u32 3144134277, Value.int IntKind.u32 1013904242,
          Value.int IntKind.u32 2773480762, Value.int IntKind.u32 1359893119, Value.int IntKind.u32 2600822924,
          Value.int IntKind.u32 528734635, Value.int IntKind.u32 1541459225] := by kernel_rfl
  rw [e]
  clear e
  go_enter Tryz.func163, Tryz.ntmps163
  go_wp2
  refine bodyPost_ret (v := .agg #[Value.int IntKind.u32 1779033703, Value.int IntKind.u32 3144134277, Value.int IntKind.u32 1013904242,
          Value.int IntKind.u32 2773480762, Value.int IntKind.u32 1359893119, Value.int IntKind.u32 2600822924,
          Value.int IntKind.u32 528734635, Value.int IntKind.u32 1541459225]) ?_ rfl ⟨rfl, rfl⟩
  simp [results, Tryz.results163, go_sem]
end Go.Proofs.YthkfefkcjcgfkaaGreatDoor

namespace Go.Proofs.YthkfefkcjcgfkaaGreatDoor
open Go

section
variable {P : Program} {ops : Array Oper} {md : Region.Mode} {C : World → Prop}

/-- Whatever order is picked of the first n operations; at its end L holds. -/
def headQ (P : Program) (md : Region.Mode) (ops : Array Oper) (C : World → Prop) (n : Nat) (L : Array Bool → Act → Prop) : Nat → Array Bool → Act → Prop
  | 0, listed, a => L listed a
  | f + 1, listed, a => Region.ready md ops listed ≠ [] ∧ ∀ i ∈ Region.ready md ops listed, i < n ∧ qOp P ops C i (headQ P md ops C n L f (listed.setIfInBounds i true)) a

theorem any_of_headQ {n g : Nat} {L : Array Bool → Act → Prop} {Q' : Exit → Act → World → Prop} (hL : ∀ listed a w, C w → L listed a → wpAny P md ops Q' g listed a w) :
    ∀ (f : Nat) (listed : Array Bool) (a : Act) (w : World), C w → headQ P md ops C n L f listed a → wpAny P md ops Q' (f + g) listed a w
  | 0, listed, a, w, hw, h => by rw [Nat.zero_add]; exact hL _ _ _ hw h
  | f + 1, listed, a, w, hw, h => by
    rw [show f + 1 + g = (f + g) + 1 by omega]
    exact ⟨fun h0 => absurd h0 h.1, fun i hi => wpOp_of_qOp hw (fun a' w' hw' h' => any_of_headQ hL f _ a' w' hw' h') (h.2 i hi).2⟩

theorem headQ_first {n i : Nat} {oi : Oper} {v : Value} {L : Array Bool → Act → Prop} (hi : ops[i]? = some oi) (hsel : ∀ (j : Nat) (o : Oper) cs b, ops[j]? = some o → o.op ≠ .select cs b)
    (hs : Region.sinkB md ops n = true) (hc : Region.chainB md ops n = true) (hn : n < ops.size) (hin : i < n)
    (hdone : ∀ listed a, L listed a → ∀ j ∈ Region.ready md ops listed, n ≤ j) :
    ∀ (f : Nat) (listed : Array Bool) (a : Act), HeadInv md ops n listed →
      (∀ j oj, ops[j]? = some oj → j ≠ i → listed.getD j true = false → (∀ e ∈ oj.after, Region.binds md e = true → e.on ≠ i) → oi.apart ops oj = true) →
      i ∈ Region.ready md ops listed → YieldsIn P ops C oi v a →
      headQ P md ops C n L f (listed.setIfInBounds i true) (a.put oi.dst v) → headQ P md ops C n L (f + 1) listed a := by
  intro f
  induction f with
  | zero =>
    intro listed a inv _ hr hy H
    have hun := (mem_ready.1 hr).1
    refine ⟨fun h => (by rw [h] at hr; cases hr), fun j hj => ?_⟩
    have hjn : j < n := by
      rcases Nat.lt_or_ge j n with h | h
      · exact h
      · exact absurd hj (tail_waits hs hc hn inv _ i rfl hin hun j h)
    refine ⟨hjn, ?_⟩
    by_cases hji : j = i
    · subst hji; exact hy.qOp hi H
    · have := hdone _ _ H j (ready_mono hj hji)
      omega
  | succ f ih =>
    intro listed a inv hfree hr hy H
    have hun := (mem_ready.1 hr).1
    refine ⟨fun h => (by rw [h] at hr; cases hr), fun j hj => ?_⟩
    have hjn : j < n := by
      rcases Nat.lt_or_ge j n with h | h
      · exact h
      · exact absurd hj (tail_waits hs hc hn inv _ i rfl hin hun j h)
    refine ⟨hjn, ?_⟩
    by_cases hji : j = i
    · subst hji; exact hy.qOp hi H
    · have h1 := (H.2 j (ready_mono hj hji)).2
      obtain ⟨hjun, oj, hoj, hall⟩ := mem_ready.1 hj
      have hnot : ∀ e ∈ oj.after, Region.binds md e = true → e.on ≠ i := fun e he hb heq => by
        have h1 := hall e he hb
        rw [heq, getD_both hun] at h1
        cases h1
      have h2 := qOp_put hoj (hfree j oj hoj hji hjun hnot) (fun cs b => hsel i oi cs b hi) (fun cs b => hsel j oj cs b hoj) hy h1
      have hfree' : ∀ k ok, ops[k]? = some ok → k ≠ i → (listed.setIfInBounds j true).getD k true = false →
          (∀ e ∈ ok.after, Region.binds md e = true → e.on ≠ i) → oi.apart ops ok = true := fun k ok hk hki hun hno => by
        refine hfree k ok hk hki ?_ hno
        by_cases hjk : j = k
        · subst hjk; exact hjun
        · rw [getD_set_ne true hjk] at hun; exact hun
      refine qOp_mono (fun a' h3 => ih (listed.setIfInBounds j true) a' (inv.set hj hjn) hfree' (ready_mono hr (Ne.symm hji)) h3.1 ?_) h2
      rw [Array.setIfInBounds_comm _ _ hji]
      exact h3.2

theorem headQ_lex {n g : Nat} {Lq : Act → Prop} (hsel : Region.noSelect ops = true) (hs : Region.sinkB md ops n = true) (hc : Region.chainB md ops n = true) (hn : n < ops.size) :
    ∀ (l : List Oper) (k : Nat) (listed : Array Bool) (a : Act), (∀ j, j < l.length → l[j]? = ops[k + j]?) → k + l.length = n → HeadInv md ops n listed →
    Region.lexHead md ops g l.length k listed = true → wpQuiet P ops C Lq l a →
    headQ P md ops C n (fun listed' a' => Region.seqB md ops g n listed' = true ∧ Lq a') l.length listed a
  | [], k, listed, a, _, hk, _, hB, h => by
    have : k = n := by simpa using hk
    subst this
    exact ⟨by simpa [Region.lexHead] using hB, h⟩
  | o :: l, k, listed, a, hl, hk, inv, hB, h => by
    have h0 : ops[k]? = some o := by simpa using (hl 0 (by simp)).symm
    simp only [List.length_cons, Region.lexHead, Bool.and_eq_true] at hB
    obtain ⟨⟨hr, hf⟩, hB'⟩ := hB
    have hkn : k < n := by simp only [List.length_cons] at hk; omega
    have hr' : k ∈ Region.ready md ops listed := by simpa using hr
    have hst : qOp P ops C k (wpQuiet P ops C Lq l) a := by unfold qOp; simp only [h0]; exact h
    obtain ⟨v, hy, hK⟩ := yieldsIn_of_qOp h0 hst
    exact headQ_first h0 (Region.noSelect_spec hsel) hs hc hn hkn (fun listed' a' hL => seqB_ready hL.1) l.length listed a inv (Region.free_spec h0 hf) hr' hy
      (headQ_lex hsel hs hc hn l (k + 1) _ _ (fun j hj => by have := hl (j + 1) (by simp; omega); simpa [Nat.add_assoc, Nat.add_comm 1 j] using this) (by simp only [List.length_cons] at hk; omega) (inv.set hr' hkn) hB' hK)

/-- The region: its first n operations quiet in the class C, the rest walked behind them in any world of the class. -/
theorem region_quiet_tail {id : Nat} {Q : Exit → Act → World → Prop} {a : Act} {w : World} {l : List Oper} (n : Nat) (hm : P.follows .mixedOrders = true) (hB : Region.lexTailB .any l.toArray n = true)
    (hC : C { w with drawn := w.drawn + 1 })
    (h : wpQuiet P l.toArray C (fun a' => ∀ w', C w' → wpList P l.toArray Q (l.drop n) a' w') (l.take n) a) : (Code.region id l.toArray true).wp P Q a w := by
  simp only [Region.lexTailB, Bool.and_eq_true, decide_eq_true_eq] at hB
  obtain ⟨⟨⟨⟨hsel, hn⟩, hs⟩, hc⟩, hlex⟩ := hB
  have hn' : n < l.length := by simpa using hn
  have htl : (l.take n).length = n := by simp; omega
  have hdl : (l.drop n).length = l.toArray.size - n := by simp
  have inv0 : HeadInv .any l.toArray n (Array.replicate l.toArray.size false) :=
    ⟨by simp, fun j oj _ hl => (by rw [getD_replicate_false] at hl; cases hl), fun t _ ht => getD_in (by simpa using ht) (getD_replicate_false _ _)⟩
  have H := headQ_lex (C := C) (md := .any) (g := l.toArray.size - n) hsel hs hc hn (l.take n) 0 _ a (fun j hj => by
    have hj' : j < n := by rw [htl] at hj; exact hj
    simp [hj']) (by simpa using htl) inv0 (by rw [htl]; exact hlex) h
  refine wp_region_any hm ?_
  have := any_of_headQ (Q' := Q) (g := l.toArray.size - n) (fun listed a' w' hw' hL => by
    have := wpAny_of_seq (md := .any) (Q' := Q) (l.drop n) n listed a' w' (fun j => by simp [List.getElem?_drop]) (by rw [hdl]; exact hL.1) (hL.2 w' hw')
    rwa [hdl] at this) _ _ _ _ hC H
  rw [htl, show n + (l.toArray.size - n) = l.toArray.size by omega] at this
  exact this

/-- The same at the class 'w after some draws'. -/
theorem region_quiet_tail_lit {id : Nat} {Q : Exit → Act → World → Prop} {a : Act} {w : World} {l : List Oper} (n : Nat) (hm : P.follows .mixedOrders = true) (hB : Region.lexTailB .any l.toArray n = true)
    (h : wpQuiet P l.toArray (fun w' => ∃ n, w' = w.drewN n) (fun a' => ∀ w', (∃ n, w' = w.drewN n) → wpList P l.toArray Q (l.drop n) a' w') (l.take n) a) : (Code.region id l.toArray true).wp P Q a w :=
  region_quiet_tail (C := fun w' => ∃ n, w' = w.drewN n) n hm hB ⟨1, rfl⟩ h
end
end Go.Proofs.YthkfefkcjcgfkaaGreatDoor

namespace Go.Proofs.YthkfefkcjcgfkaaGreatDoor
open Go.RowKit

set_option maxHeartbeats 4000000 in
set_option maxRecDepth 100000 in
theorem spread_any (wb b o : Nat) (l : List UInt8) (w : World) (t0 : TypeId) (hne : wb ≠ b)
    (hw : Blk w wb (wcells 64 []) t0) (hc : ∀ i, i < 64 → w.cell? ⟨b, o + i, none⟩ = some (.int .u8 (Y (l.getD i 0)))) :
    Calls Tryz.prog 164 #[.pointer (some ⟨wb, 0, none⟩), .pointer (some ⟨b, o, none⟩)] w fun e w' => e = .returned (.tuple #[]) ∧ Blk w' wb (wcells 64 (schedTo l 64)) t0 ∧ Save w.heap.size wb w w' := by
  go_enter Tryz.func164, Tryz.ntmps164
  go_wp2
  go_loopw [4, 5, 7] (fun _ _ q wr => ∃ k : Nat, k ≤ 16 ∧ q = .int .i64 k ∧ Blk wr wb (wcells 64 (schedTo l k)) t0 ∧ Save w.heap.size wb w wr) (fun _ _ q _ => 16 - (intOf q).toNat)
  case atStart => exact ⟨0, by omega, rfl, hw, Save.refl _ _ _⟩
  case round =>
    obtain ⟨k, hk, rfl, hW, hS⟩ := hrel
    have hbb : b < w.heap.size := block_lt_of_cell (hc 0 (by omega))
    have hfz := hW.free k
    by_cases hlt : k < 16
    · have hst : wr.cell? ⟨wb, k, none⟩ = some (.int .u32 0) := by
        rw [hW.cell]; exact wcells_zero 64 _ k (schedTo_length l k) (by omega)
      have hr : ∀ i, i < 64 → wr.cell? ⟨b, o + i, none⟩ = some (.int .u8 (Y (l.getD i 0))) := fun i hi => by
        rw [hS.cell (p := ⟨b, o + i, none⟩) hbb (fun h => hne h.symm)]; exact hc i hi
      obtain ⟨y0, hy0⟩ : ∃ y, l.getD (4 * k) 0 = y := ⟨_, rfl⟩
      obtain ⟨y1, hy1⟩ : ∃ y, l.getD (4 * k + 1) 0 = y := ⟨_, rfl⟩
      obtain ⟨y2, hy2⟩ : ∃ y, l.getD (4 * k + 2) 0 = y := ⟨_, rfl⟩
      obtain ⟨y3, hy3⟩ : ∃ y, l.getD (4 * k + 3) 0 = y := ⟨_, rfl⟩
      have c0 := hr (4 * k) (by omega)
      have c1 := hr (4 * k + 1) (by omega)
      have c2 := hr (4 * k + 2) (by omega)
      have c3 := hr (4 * k + 3) (by omega)
      rw [hy0] at c0; rw [hy1] at c1; rw [hy2] at c2; rw [hy3] at c3
      have HY : Hid (wordAt l k = y0.toBitVec.setWidth 32 <<< 24 ||| y1.toBitVec.setWidth 32 <<< 16 ||| y2.toBitVec.setWidth 32 <<< 8 ||| y3.toBitVec.setWidth 32) := by
        show _ = _
        simp only [wordAt, byteAt, hy0, hy1, hy2, hy3]
      clear hr hy0 hy1 hy2 hy3 hc
      go_wp2
      have ux := Y_wrap
      have uo := U_or
      have us1 := fun a => U_shl a 24 16777216 (by decide)
      have us2 := fun a => U_shl a 16 65536 (by decide)
      have us3 := fun a => U_shl a 8 256 (by decide)
      refine region_quiet_tail_lit 37 (by kernel_rfl) (by kernel_rfl) ?_
      simp only [List.take_succ_cons, List.take_zero, List.drop_succ_cons, List.drop_zero]
      repeat (go_big_quiet_step (fail))
      refine wpQuiet_nil ?_
      intro _ hw'
      obtain ⟨nq, hw''⟩ := hw'
      subst hw''
      go_wp2
      have hS' := hS.drewN nq
      have hm : 16 - (intOf (Value.int IntKind.i64 (↑k + 1))).toNat < 16 - (intOf (Value.int IntKind.i64 ↑k)).toNat := by simp [intOf]; omega
      refine ⟨⟨k + 1, by omega, by go_num, ?_, ?_⟩, hm⟩
      rotate_left
      · exact hS'.setCell (.inl rfl) _
      exact blk_low l k _ hlt HY.out hW
    · obtain rfl : k = 16 := by omega
      clear hfz hlt hk hc
      go_wp2
      go_loopw [6] (fun q wr => ∃ k : Nat, 16 ≤ k ∧ k ≤ 64 ∧ q = .int .i64 k ∧ Blk wr wb (wcells 64 (schedTo l k)) t0 ∧ Save w.heap.size wb w wr) (fun q _ => 64 - (intOf q).toNat)
      case atStart => exact ⟨16, by omega, by omega, rfl, hW, hS⟩
      case round =>
        clear hW hS
        rename_i wq
        obtain ⟨k, hk0, hk, rfl, hW, hS⟩ := hrel
        by_cases hlt : k < 64
        · obtain ⟨m, rfl⟩ : ∃ m, k = m + 16 := ⟨k - 16, by omega⟩
          have hfz := hW.free (m + 16)
          have hst := hW.cell (m + 16)
          rw [wcells_zero 64 _ _ (schedTo_length l (m + 16)) (by omega)] at hst
          have c0 := hW.cell m
          rw [wcells_get' 64 _ _ _ (schedTo_length l (m + 16)) (by omega)] at c0
          have c1 := hW.cell (m + 1)
          rw [wcells_get' 64 _ _ _ (schedTo_length l (m + 16)) (by omega)] at c1
          have c2 := hW.cell (m + 9)
          rw [wcells_get' 64 _ _ _ (schedTo_length l (m + 16)) (by omega)] at c2
          have c3 := hW.cell (m + 14)
          rw [wcells_get' 64 _ _ _ (schedTo_length l (m + 16)) (by omega)] at c3
          have HS := sched_high l m
          rw [s0_sft, s1_sft] at HS
          replace HS := Lib.hid HS
          generalize (schedTo l (m + 16)).getD m 0 = x0 at c0 HS
          generalize (schedTo l (m + 16)).getD (m + 1) 0 = x1 at c1 HS
          generalize (schedTo l (m + 16)).getD (m + 9) 0 = x2 at c2 HS
          generalize (schedTo l (m + 16)).getD (m + 14) 0 = x3 at c3 HS
          go_wp2
          have ua := U_add
          refine region_quiet_tail_lit 33 (by kernel_rfl) (by kernel_rfl) ?_
          simp only [List.take_succ_cons, List.take_zero, List.drop_succ_cons, List.drop_zero]
          repeat (go_big_quiet_step ((go_at_call 170; exact Calls.quiet_of (shift_any _ _ _ _ _ (by omega) (by omega) (by omega)))))
          refine wpQuiet_nil ?_
          intro _ hw'
          obtain ⟨nq, hw''⟩ := hw'
          subst hw''
          go_wp2
          have hS' := hS.drewN nq
          have hm : 64 - (intOf (Value.int IntKind.i64 (↑(m + 16) + 1))).toNat < 64 - (intOf (Value.int IntKind.i64 ↑(m + 16))).toNat := by simp [intOf]; omega
          refine ⟨⟨m + 16 + 1, by omega, by omega, by go_num, ?_, ?_⟩, hm⟩
          rotate_left
          · exact hS'.setCell (.inl rfl) _
          exact blk_high l m _ hlt HS.out hW
        · obtain rfl : k = 64 := by omega
          go_wp2
          go_end0
          exact ⟨rfl, hW, hS⟩
end Go.Proofs.YthkfefkcjcgfkaaGreatDoor
