/- slices.Backward over a slice of texts; join. -/
import Derived.Test.YtakmlbnjgkfaiaaDoorMSa
import Derived.RangeFuncNested
import Derived.RangeFuncBound
import Derived.RangeFuncCalls
import Derived.RangeFuncLeaves
import Derived.RangeFuncBox
import Derived.Maps.AppendAt
import Derived.Shelf.Abstract
import Derived.Shelf.AbstractIn
import Derived.Shelf.RegionOpen
import Derived.OwnWalkIn
import Derived.TacticsInMore
import Derived.LoopNIn
import Derived.LoopIn
namespace Go.Proofs.YtakmlbnjgkfaiaaDoor
open Go Go.RowKit Go.Shelf
attribute [local go_sem] Oper.semAt_some

/-- A text with its number, of a bounded size. -/
abbrev Nx := { x : Nat × ByteArray // x.2.size ≤ 70000000000000 }
def nxEnc (x : Nx) : Array Value := #[.int .i64 (x.1.1 : Int), .string x.1.2]
def fitG (l : List ByteArray) : Prop := ∀ i, (l.getD i ByteArray.empty).size ≤ 70000000000000
theorem fit_getD {l : List ByteArray} (h : Fit l) : fitG l := fun i => by
  by_cases hi : i < l.length
  · have := h l[i] (List.getElem_mem hi)
    simpa [List.getD, hi] using this
  · have : l.getD i ByteArray.empty = ByteArray.empty := by simp [List.getD, List.getElem?_eq_none (Nat.le_of_not_lt hi)]
    rw [this]; exact Nat.zero_le _
def nx (l : List ByteArray) (h : fitG l) (i : Nat) : Nx := ⟨(i, l.getD i ByteArray.empty), h i⟩
/-- The last k, the last one first. -/
def bkL (l : List ByteArray) (h : fitG l) (k : Nat) : List Nx := (List.range k).map fun j => nx l h (l.length - 1 - j)
theorem bkL_succ (l : List ByteArray) (h : fitG l) (k : Nat) : bkL l h (k + 1) = bkL l h k ++ [nx l h (l.length - 1 - k)] := by simp [bkL, List.range_succ]
theorem bkL_length (l : List ByteArray) (h : fitG l) (k : Nat) : (bkL l h k).length = k := by simp [bkL]
/-- What the texts so far make of the last one. -/
def accJ (h : ByteArray) (pre : List Nx) : ByteArray := pre.foldl (fun a x => nodeH x.1.2 a) h
theorem accJ_snoc (h : ByteArray) (pre : List Nx) (x : Nx) : accJ h (pre ++ [x]) = nodeH x.1.2 (accJ h pre) := by simp [accJ]
theorem accJ_size (h : ByteArray) (hh : h.size ≤ 70000000000000) (pre : List Nx) : (accJ h pre).size ≤ 70000000000000 := by
  rcases List.eq_nil_or_concat pre with rfl | ⟨q, x, rfl⟩
  · exact hh
  · rw [List.concat_eq_append, accJ_snoc, nodeH_size]; omega
theorem accJ_all (l : List ByteArray) (hl : fitG l) (h : ByteArray) : ∀ k, k ≤ l.length → accJ h (bkL l hl k) = jn (l.drop (l.length - k)) h
  | 0, _ => by rw [Nat.sub_zero, List.drop_length]; rfl
  | k + 1, hk => by
    rw [bkL_succ, accJ_snoc, accJ_all l hl h k (by omega)]
    have hi : l.length - (k + 1) < l.length := by omega
    rw [List.drop_eq_getElem_cons hi, show l.length - (k + 1) + 1 = l.length - k by omega]
    show nodeH (l.getD (l.length - 1 - k) ByteArray.empty) _ = nodeH _ _
    rw [show l.length - 1 - k = l.length - (k + 1) by omega]
    simp [List.getD, hi, jn]
theorem chg_cell {S : Nat → Prop} {w w' : World} {b : Nat} (h : Pk.Chg S w w') (hlt : b < w.heap.size) (hS : ¬ S b) (i : Nat) : w'.cell? ⟨b, i, none⟩ = w.cell? ⟨b, i, none⟩ := by
  unfold World.cell?
  rw [h.block b hlt hS]
theorem chg_put {S : Nat → Prop} {B : Nat} (hS : ∀ k, B ≤ k → S k) (W : World) (l : Nat) (o' : Obj) (hl : B ≤ l) : Pk.Chg S W (W.putObj l o') := by
  have h := grownBy_putObj' W l o'
  exact ⟨h.os, h.tape, h.output, h.size, fun k hk hn => h.block k hk (fun e => hn (hS k (by cases e; exact hl)))⟩
theorem chg_own {S : Nat → Prop} {w : World} {B : Nat} {β : Type} (hS : ∀ k, B ≤ k → S k) : OwnFrom B (fun (_ : β) W => Pk.Chg S w W) := fun _ X Y row hs hg hr => by
  refine ⟨hg.os.trans hs.os, hg.tape.trans hs.tape, hg.output.trans hs.output, Nat.le_trans hs.size hg.size, fun k hk hn => ?_⟩
  refine (hg.block k (Nat.lt_of_lt_of_le hk hs.size) (fun e => ?_)).trans (hs.block k hk hn)
  exact hn (hS k (hr k e.symm).1)
set_option maxRecDepth 100000 in
set_option maxHeartbeats 2000000 in
theorem sback1_in (F : Fence) (n : Nat) (h7 : F.fn 77) (hro : F.round = none) (hn : 1 ≤ n) (l Bs b off cap : Nat) (S : Nat → Prop) (zs : List ByteArray) (hZ : fitG zs) (hreach : zs.length ≤ 9223372036854775807) (hbS : ¬ S b) (hBS : ¬ S Bs) (J Jx : List Nx → World → Prop)
    (hY : ∀ pre x W, J pre W → pre.length < zs.length → YieldAt F (n - 1) Tryd.prog l (nxEnc x) W fun e W' =>
      (e = .returned (.bool true) ∧ J (pre ++ [x]) W' ∧ Pk.Chg S W W') ∨ (e = .returned (.bool false) ∧ Jx (pre ++ [x]) W'))
    (W : World) (hBlt : Bs < W.heap.size) (hblt : b < W.heap.size) (hBs : W.cell? ⟨Bs, 0, none⟩ = some (.slice (some ⟨b, off, none⟩) zs.length cap)) (hc : ∀ j, j < zs.length → W.cell? ⟨b, off + j, none⟩ = some (.string (zs.getD j ByteArray.empty))) (h0 : J [] W) :
    CallsIn F n Tryd.prog 77 #[.func (.yield l) #[] #[], .pointer (some ⟨Bs, 0, none⟩)] W fun e W' => (∃ v, e = .returned v) ∧
      ((∃ ys, ys = bkL zs hZ zs.length ∧ J ys W') ∨ (∃ pre, (∃ k, k ≤ zs.length ∧ pre = bkL zs hZ k) ∧ Jx pre W')) := by
  obtain ⟨M, hM⟩ : ∃ M, zs.length = M := ⟨_, rfl⟩
  rw [hM] at hBs hc hreach
  have hkc : ∀ (wr : World), Pk.Chg S W wr → wr.cell? ⟨Bs, 0, none⟩ = some (.slice (some ⟨b, off, none⟩) M cap) := fun wr hk => (chg_cell hk hBlt hBS 0).trans hBs
  replace hkc := Box.mk hkc
  replace hc := Box.mk hc
  replace hM := Box.mk hM
  refine callsIn_of_wp Tryd.func77 rfl h7 ?_ hro
  simp only [Tryd.ntmps77, List.size_toArray, List.length_cons, List.length_nil, Nat.reduceAdd, Nat.reduceSub, Array.replicate_succ, Array.replicate_zero, List.push_toArray, List.append_toArray, List.nil_append, List.cons_append]
  gi_wp2
  gi_loopw [3] (fun i wr => ∃ k j : Nat, k + j = M ∧ i = .int .i64 ((j : Int) - 1) ∧ J (bkL zs hZ k) wr ∧ Box (Pk.Chg S W wr))
    (fun i _ => (intOf i + 1).toNat)
  case atStart => exact ⟨0, M, by omega, rfl, h0, ⟨Pk.Chg.refl _ _⟩⟩
  case round =>
    obtain ⟨k, j, hkj, rfl, hJs, hnx⟩ := hrel
    have hcs := hkc.out wr hnx.out
    cases j with
    | zero =>
      gi_wp2
      go_end0
      exact ⟨⟨_, rfl⟩, .inl ⟨_, by rw [hM.out, show M = k by omega], hJs⟩⟩
    | succ j =>
      have e1 : ((j + 1 : Nat) : Int) - 1 = (j : Int) := by omega
      rw [e1]
      clear e1
      have hxx : Box (nx zs hZ j = nx zs hZ (zs.length - 1 - k)) := ⟨by rw [hM.out, show M - 1 - k = j by omega]⟩
      obtain ⟨fn, tmps, assign, body, hy, hR⟩ := hY _ (nx zs hZ j) wr hJs (by rw [bkL_length, hM.out]; omega)
      simp only [nxEnc, nx] at hy
      have hcj : wr.cell? ⟨b, off + j, none⟩ = some (.string (zs.getD j ByteArray.empty)) := (chg_cell hnx.out hblt hbS _).trans (hc.out j (by omega))
      have hjM : j < M := by omega
      generalize zs.getD j ByteArray.empty = q at hcj hy
      gi_wp2
      refine hR.mono ?_
      rintro e W3 (⟨rfl, hJ3, hk3⟩ | ⟨rfl, hJx3⟩)
      · have hk4 := Box.mk (hnx.out.trans hk3 fun _ _ h => h)
        gi_wp2
        go_roundw
        case rel => exact ⟨k + 1, j, by omega, rfl, by rw [bkL_succ, ← hxx.out]; exact hJ3, hk4⟩
        case measure => simp [intOf]
      · gi_wp2
        refine bodyPost_ret (results_none rfl _ _ _) rfl ?_
        exact ⟨⟨_, rfl⟩, .inr ⟨_, ⟨k + 1, by rw [hM.out]; omega, by rw [bkL_succ, hxx.out]⟩, hJx3⟩⟩
theorem sback1_nil (F : Fence) (n : Nat) (h7 : F.fn 77) (hro : F.round = none) (l Bs cap : Nat) (a : Option Addr) (J : List Nx → World → Prop) (W : World) (hBs : W.cell? ⟨Bs, 0, none⟩ = some (.slice a 0 cap)) (h0 : J [] W) :
    CallsIn F n Tryd.prog 77 #[.func (.yield l) #[] #[], .pointer (some ⟨Bs, 0, none⟩)] W fun e W' => (∃ v, e = .returned v) ∧ J [] W' := by
  refine callsIn_of_wp Tryd.func77 rfl h7 ?_ hro
  simp only [Tryd.ntmps77, List.size_toArray, List.length_cons, List.length_nil, Nat.reduceAdd, Nat.reduceSub, Array.replicate_succ, Array.replicate_zero, List.push_toArray, List.append_toArray, List.nil_append, List.cons_append]
  gi_wp2
  gi_loopw [3] (fun i wr => i = .int .i64 (-1) ∧ J [] wr) (fun _ _ => 0)
  case atStart => exact ⟨rfl, h0⟩
  case round =>
    obtain ⟨rfl, hJs⟩ := hrel
    gi_wp2
    go_end0
    exact ⟨⟨_, rfl⟩, hJs⟩
theorem sback_in (F : Fence) (n : Nat) (h5 : F.fn 55) (hro : F.round = none) (v : Value) (w : World) (hv : ∃ a l c, v = .slice a l c) :
    CallsIn F n Tryd.prog 55 #[v] w fun e w' => e = .returned (.func (.func 77) #[] #[.pointer (some ⟨w.heap.size, 0, none⟩)]) ∧ w' = w.alloc (.cells #[v] 22) := by
  obtain ⟨a, len, cap, rfl⟩ := hv
  refine callsIn_of_wp Tryd.func55 rfl h5 ?_ hro
  simp only [Tryd.ntmps55, List.size_toArray, List.length_cons, List.length_nil, Nat.reduceAdd, Nat.reduceSub, Array.replicate_succ, Array.replicate_zero, List.push_toArray, List.append_toArray, List.nil_append, List.cons_append]
  gi_wp2
  go_ret
  exact ⟨rfl, rfl⟩
theorem sback_stops (F : Fence) (n : Nat) (h7 : F.fn 77) (hro : F.round = none) (hn : 1 ≤ n) (Bs : Nat) (a : Option Addr) (c : Nat) (S : Nat → Prop) (zs : List ByteArray) (hZ : fitG zs) (w : World) (hBs : Bs < w.heap.size) (hBS : ¬ S Bs)
    (hc : w.cell? ⟨Bs, 0, none⟩ = some (.slice a zs.length c)) (hI : PA w a zs.length c zs) (hlow : ∀ b, a = some b → 0 < zs.length → ¬ S b.block) :
    SeqStopsK F n Tryd.prog 77 #[.pointer (some ⟨Bs, 0, none⟩)] nxEnc (Pk.Chg S) (fun ys => ys = bkL zs hZ zs.length) (fun pre => ∃ k, k ≤ zs.length ∧ pre = bkL zs hZ k) zs.length w := fun l J Jx W hW _ _ hY h0 => by
  have hc' := (hW.cell (p := ⟨Bs, 0, none⟩) hBs).trans hc
  have hI' := hI.here hW
  by_cases hz : 0 < zs.length
  · obtain ⟨b, off, rfl, hb, hcs⟩ := hI'.at_ hz
    have hcap := hI'.cap
    have htop := hI'.top
    exact sback1_in F n h7 hro hn l Bs b off c S zs hZ (by omega) (hlow _ rfl hz) hBS J Jx hY W (Nat.lt_of_lt_of_le hBs hW.size) hb hc' hcs h0
  · obtain rfl : zs = [] := List.length_eq_zero_iff.1 (by omega)
    exact (sback1_nil F n h7 hro l Bs c a J W hc' h0).mono fun e W' ⟨he, hj⟩ => ⟨he, .inl ⟨_, rfl, hj⟩⟩
theorem KIs.chg {S : Nat → Prop} {w w' : World} (h : KIs w) (hc : Pk.Chg S w w') (hn : ¬ S 2) : KIs w' := fun i hi => by
  rw [chg_cell hc h.lt hn i]; exact h i hi
theorem keeps_chg {S : Nat → Prop} {B : Nat} {W W' : World} (hc : Pk.Chg S W W') (hn : ∀ (k : Nat) (o : Obj), W.heap[k]? = some o → o.isCells = false → ¬ S k) : KeepsFrom B W W' :=
  ⟨hc.size, fun k o _ hk ho => (hc.block k (Array.getElem?_eq_some_iff.1 hk).1 (hn k o hk ho)).trans hk⟩
set_option maxRecDepth 100000 in
set_option maxHeartbeats 4000000 in
theorem join_in (a : Option Addr) (n c : Nat) (P : List ByteArray) (h : ByteArray) (w : World) (hP : PA w a n c P) (hF : Fit P) (hK : KIs w) (hh : h.size ≤ 70000000000000) :
    CallsIn Fence.wide 9 Tryd.prog 31 #[.slice a n c, .string h] w fun e w' => e = .returned (.string (jn P h)) ∧ Below w.heap.size w w' := by
  have hlen := hP.len
  subst hlen
  have hZ := fit_getD hF
  obtain ⟨wb, hwb⟩ : ∃ wb, w.alloc (.cells #[.string h] 9) = wb := ⟨_, rfl⟩
  have hB1 : Below w.heap.size w wb := by rw [← hwb]; exact bel_alloc _ _
  have bO : Boxed wb w.heap.size 9 (.string h) := by rw [← hwb]; exact Boxed.new w 9 (.string h)
  have hsb : wb.heap.size = w.heap.size + 1 := by rw [← hwb]; simp
  refine callsIn_of_wp_marks Tryd.func31 rfl trivial ?_ rfl
  simp only [Tryd.ntmps31, List.size_toArray, List.length_cons, List.length_nil, Nat.reduceAdd, Nat.reduceSub, Array.replicate_succ, Array.replicate_zero, List.push_toArray, List.append_toArray, List.nil_append, List.cons_append]
  gi_wp2
  refine ⟨trivial, (sback_in Fence.wide 8 trivial rfl _ _ ⟨_, _, _, rfl⟩).mono ?_⟩
  rintro e w2 ⟨rfl, rfl⟩
  obtain ⟨wc, hwc⟩ : ∃ wc, wb.alloc (.cells #[.slice a P.length c] 22) = wc := ⟨_, rfl⟩
  have hB2 : Below w.heap.size w wc := by rw [← hwc]; exact mono_bel hB1 (bel_alloc _ _) (Nat.le_refl _)
  have bO2 : Boxed wc w.heap.size 9 (.string h) := by rw [← hwc]; exact bO.alloc _
  have hsc : wc.heap.size = w.heap.size + 2 := by rw [← hwc]; simp; omega
  have hc2 : wc.cell? ⟨w.heap.size + 1, 0, none⟩ = some (.slice a P.length c) := by
    have := (Blk.new wb [.slice a P.length c] 22).cell 0
    rw [hwc, hsb] at this
    exact this
  rw [hsb]
  clear hwb bO hB1
  gi_wp2
  refine wpIn_rangeFunc_ownG rfl (by omega) (gf := 77) (lb := #[.pointer (some ⟨w.heap.size + 1, 0, none⟩)]) rfl trivial (enters_of Tryd.func77 (by kernel_rfl) rfl)
    (sback_stops Fence.wide 8 trivial rfl (by omega) (w.heap.size + 1) a c (fun k => k = w.heap.size ∨ w.heap.size + 2 ≤ k) P hZ wc (by omega) (by omega) hc2 (hP.here hB2) (fun b hb hz => by
      obtain ⟨b2, o2, e2, h2, _⟩ := hP.at_ hz
      rw [hb] at e2; cases e2; show ¬ (b2 = w.heap.size ∨ w.heap.size + 2 ≤ b2); omega)) (fun h k => h.trans k fun _ _ h => h) (fun W l _ o' hl _ _ _ => chg_put (B := w.heap.size + 2) (fun k hk => .inr hk) W l o' (by rw [← hsc]; exact hl)) (Below.refl _ _) (fun _ => rfl)
    (fun pre W => Boxed W w.heap.size 9 (.string (accJ h pre)) ∧ Pk.Chg (fun k => k = w.heap.size ∨ w.heap.size + 2 ≤ k) wc W)
    (fun _ _ _ => False)
    ?own
    (fun _ _ _ _ _ hs _ _ => hs)
    ⟨bO2, Pk.Chg.refl _ _⟩
    (fun x => { tmps := #[.slice a P.length c, .string h, undef, .pointer (some ⟨w.heap.size, 0, none⟩), .string ⟨#[]⟩, undef, .string x.1.2, .slice a P.length c, .func (.func 77) #[] #[.pointer (some ⟨w.heap.size + 1, 0, none⟩)], .int .i64 (x.1.1 : Int), .string x.1.2, undef, undef, undef, undef], defers := [] }) ?assign ?body ?done ?stop
  case own => exact OwnFrom.and (Own.from (boxed_own w.heap.size 9 fun pre : List Nx => .string (accJ h pre)) _) (chg_own (B := _) fun k hk => .inr (by rw [← hsc]; exact hk))
  case assign =>
    intro l x W K hK
    simp only [nxEnc]
    gi_wp2
    exact hK
  case body =>
    rintro l pre x W ⟨hv, hC⟩ hlt
    have hc := hv.cell
    have hf := hv.frozen
    have hKl := hK.lt
    have hKW : KIs W := (hK.below hB2 hK.lt).chg hC (by omega)
    have hN := CallsIn.inRound l ((callsIn_wide (n := 6)).2 (tnode_any x.1.2 (accJ h pre) W hKW (Nat.le_trans x.2 (by decide)) (Nat.le_trans (accJ_size h hh pre) (by decide))))
    rw [← accJ_snoc] at hN
    replace hN := Box.mk hN
    replace hC := Box.mk hC
    replace hv := Box.mk hv
    clear hlt hKl hKW
    gi_wp2
    refine ⟨trivial, hN.out.mono ?_⟩
    rintro e W1 ⟨rfl, hb1⟩
    clear hN
    have hl1 : w.heap.size < W.heap.size := hv.out.lt
    have hv1 : Boxed W1 w.heap.size 9 (.string (accJ h pre)) := (hb1.block _ hl1).trans hv.out
    have hf1 := hv1.frozen
    have hch : Pk.Chg (fun k => k = w.heap.size ∨ W.heap.size ≤ k) W (W1.setCell ⟨w.heap.size, 0, none⟩ (.string (accJ h (pre ++ [x])))) := ((Pk.Chg.of_below hb1).mono fun _ _ h => .inr h).setCell (.inl rfl) _
    have hv2 := hv1.set (.string (accJ h (pre ++ [x])))
    have hc1 := hv1.cell
    have hs1 := hC.out.size
    replace hv1 := Box.mk hv1
    gi_wp2
    refine ⟨keeps_chg hch (fun k o hk ho e => ?_), hch.mono (fun i _ hi => hi.imp id fun h => by omega), hv2, hC.out.trans hch (fun i _ hi => hi.imp id fun h => by omega)⟩
    rcases e with rfl | e
    · have h3 := hv.out
      unfold Boxed at h3
      rw [h3] at hk; cases hk; cases ho
    · have := (Array.getElem?_eq_some_iff.1 hk).1; omega
  case done =>
    rintro D ys W hD rfl ⟨hv, hC⟩ hK2
    rw [accJ_all P hZ h P.length (Nat.le_refl _), Nat.sub_self, List.drop_zero] at hv
    have hc := hv.cell
    gi_wp2
    refine ⟨by simp, .inl ⟨_, _, rfl, run_takeDeferred hK2, ?_⟩⟩
    refine ⟨_, results_tmp rfl _ _ _, rfl, ?_⟩
    have h1 := hC.trans (chg_put (B := w.heap.size + 2) (S := fun k => k = w.heap.size ∨ w.heap.size + 2 ≤ k) (fun k hk => .inr hk) W D (.deferred none) (by rw [← hsc]; exact hD)) fun _ _ h => h
    exact hB2.trans (h1.below (by omega) fun i hi => by omega)
  case stop =>
    rintro D' c' pre W _ _ h _
    exact h.elim
/-- The node over each peak and what the others make. -/
theorem join_any (a : Option Addr) (n c : Nat) (P : List ByteArray) (h : ByteArray) (w : World) (hP : PA w a n c P) (hF : Fit P) (hK : KIs w) (hh : h.size ≤ 70000000000000) :
    Calls Tryd.prog 31 #[.slice a n c, .string h] w fun e w' => e = .returned (.string (jn P h)) ∧ Below w.heap.size w w' := (callsIn_wide (n := 9)).1 (join_in a n c P h w hP hF hK hh)
theorem jn_size (P : List ByteArray) (h : ByteArray) (hh : h.size ≤ 70000000000000) : (jn P h).size ≤ 70000000000000 := by
  cases P with
  | nil => exact hh
  | cons x P => show (nodeH x (jn P h)).size ≤ _; rw [nodeH_size]; omega
end Go.Proofs.YtakmlbnjgkfaiaaDoor
