/- The document's own device: its form in memory, its small calls. | The document's device: Read. | The document's device: settled. | The document's device: All, Barrier, Crash. | The document's device: Write. | The document's device: Write in all cases. | The document's device: New. -/
import Derived.IntWalk
import Derived.Test.YtoaipjpbioaneaaGreatCeT
namespace Go.Proofs.YtoaipjpbioaneaaGreat
open Go.RowKit

def bt (l : List UInt8) : ByteArray := ⟨l.toArray⟩
theorem bt_list (l : List UInt8) : (bt l).data.toList = l := rfl
theorem bt_of (t : ByteArray) : bt t.data.toList = t := by unfold bt; rw [Array.toArray_toList]
theorem bt_app (a b : List UInt8) : bt (a ++ b) = bt a ++ bt b := by
  apply ByteArray.ext
  rw [ByteArray.data_append]
  simp [bt]
theorem bt_size (l : List UInt8) : (bt l).size = l.length := rfl
theorem bt_cut (l : List UInt8) (i j : Nat) : (bt l).extract i j = bt ((l.drop i).take (j - i)) := by
  apply ByteArray.ext
  rw [ByteArray.data_extract]
  apply Array.ext'
  rw [Array.toList_extract, List.extract_eq_take_drop]; rfl
def z64 : ByteArray := bt (List.replicate 64 0)
theorem z64_size : z64.size = 64 := rfl
theorem pad_bt (t : ByteArray) : bt (padS t.data.toList) = t ++ z64.extract t.size 64 := by
  unfold padS z64
  rw [bt_app, bt_of, bt_cut, data_len, List.drop_replicate, List.take_replicate, Nat.min_self]
theorem tear_bt (k : Nat) (a b : List UInt8) (hb : b.length = 64) : bt (tear k a b) = (bt a).extract 0 k ++ (bt b).extract k 64 := by
  unfold tear
  rw [bt_app, bt_cut, bt_cut, List.drop_zero, Nat.sub_zero, List.take_of_length_le (show (b.drop k).length ≤ 64 - k by rw [List.length_drop, hb]; exact Nat.le_refl _)]


def strs (s : List Sec) : List Value := s.map fun t => .string (bt t)
def wcs : List WrD → List Value
  | [] => []
  | x :: ws => .int .i64 (x.1 : Int) :: .string (bt x.2) :: wcs ws
theorem wcs_app : ∀ (a b : List WrD), wcs (a ++ b) = wcs a ++ wcs b
  | [], b => rfl
  | x :: a, b => by rw [List.cons_append, wcs, wcs, wcs_app a b]; rfl
theorem wcs_length : ∀ (a : List WrD), (wcs a).length = a.length * 2
  | [] => rfl
  | x :: a => by rw [wcs, List.length_cons, List.length_cons, wcs_length a, List.length_cons]; omega
theorem wcs_get : ∀ (a : List WrD) (i : Nat) (h : i < a.length), (wcs a)[i * 2]? = some (.int .i64 ((a[i]).1 : Int)) ∧ (wcs a)[i * 2 + 1]? = some (.string (bt (a[i]).2))
  | [], i, h => by cases h
  | x :: a, 0, _ => ⟨rfl, rfl⟩
  | x :: a, i + 1, h => by
    have := wcs_get a i (by simpa using h)
    rw [show (i + 1) * 2 = i * 2 + 2 by omega, show i * 2 + 2 + 1 = i * 2 + 1 + 2 by omega]
    exact this
theorem strs_get (s : List Sec) (i : Nat) (h : i < s.length) : (strs s)[i]? = some (.string (bt (s.getD i zeroS))) := by
  unfold strs
  rw [List.getElem?_map, List.getElem?_eq_getElem h, List.getD_eq_getElem?_getD, List.getElem?_eq_getElem h]; rfl
/-- The document's device at bw holds D. -/
structure QAt (w : World) (bw : Nat) (F : Nat → Prop) (D : Dev) : Prop where
  ok : D.ok
  out : ∃ vs vp, Blk w bw [vs, vp, .int .i64 (D.taken : Int), .int .i64 (D.fall : Int), .bool D.off] 96 ∧ Row w 9 1 vs D.safe.length (strs D.safe) ∧ Row w 102 2 vp D.ws.length (wcs D.ws) ∧ (∀ k, vs.ownBlock = some k → F k) ∧ (∀ k, vp.ownBlock = some k → F k)
  fd : F bw
  lt : ∀ k, F k → k < w.heap.size
theorem QAt.chg {S : Nat → Prop} {w w' : World} {bw : Nat} {F : Nat → Prop} {D : Dev} (h : QAt w bw F D) (hc : Chg S w w') (hn : ∀ k, F k → ¬ S k) : QAt w' bw F D := by
  obtain ⟨vs, vp, hb, hs, hp, h1, h2⟩ := h.out
  exact ⟨h.ok, ⟨vs, vp, hc.blk hb (hn _ h.fd), hs.chg hc fun k hk => hn k (h1 k hk), hp.chg hc fun k hk => hn k (h2 k hk), h1, h2⟩, h.fd, fun k hk => Nat.lt_of_lt_of_le (h.lt k hk) hc.size⟩
theorem QAt.below {w w' : World} {bw : Nat} {F : Nat → Prop} {D : Dev} (h : QAt w bw F D) (hb : Below w.heap.size w w') : QAt w' bw F D := h.chg (Chg.of_below hb) fun k hk => by have := h.lt k hk; omega
/-- What a call of a device leaves. -/
structure QNext (w : World) (bw : Nat) (F : Nat → Prop) (D : Dev) (w' : World) : Prop where
  at_ : QAt w' bw (fun k => F k ∨ (w.heap.size ≤ k ∧ k < w'.heap.size)) D
  chg : Chg F w w'
theorem QAt.wide {w : World} {bw : Nat} {F G : Nat → Prop} {D : Dev} (h : QAt w bw F D) (hG : ∀ k, F k → G k) (hl : ∀ k, G k → k < w.heap.size) : QAt w bw G D := by
  obtain ⟨vs, vp, hb, hs, hp, h1, h2⟩ := h.out
  exact ⟨h.ok, ⟨vs, vp, hb, hs, hp, fun k hk => hG k (h1 k hk), fun k hk => hG k (h2 k hk)⟩, hG _ h.fd, hl⟩
theorem QNext.same {w : World} {bw : Nat} {F : Nat → Prop} {D : Dev} (h : QAt w bw F D) : QNext w bw F D w :=
  ⟨h.wide (fun _ hk => .inl hk) fun k hk => by rcases hk with hk | hk; exact h.lt k hk; exact hk.2, Chg.refl _ _⟩

/-- Three numbers: what a step changes. -/
theorem QAt.three {w w' : World} {bw : Nat} {F : Nat → Prop} {D D' : Dev} (h : QAt w bw F D) (hs : D'.safe = D.safe) (hw : D'.ws = D.ws)
    (hb : ∀ vs vp, Blk w bw [vs, vp, .int .i64 (D.taken : Int), .int .i64 (D.fall : Int), .bool D.off] 96 → Blk w' bw [vs, vp, .int .i64 (D'.taken : Int), .int .i64 (D'.fall : Int), .bool D'.off] 96)
    (hc : Chg (fun k => k = bw) w w') : QAt w' bw F D' := by
  obtain ⟨vs, vp, hb0, h1, h2, h3, h4⟩ := h.out
  refine ⟨⟨hs ▸ h.ok.s, by rw [hs, hw]; exact h.ok.w, by rw [hs]; exact h.ok.n⟩, ⟨vs, vp, hb vs vp hb0, ?_, ?_, h3, h4⟩, h.fd, fun k hk => Nat.lt_of_lt_of_le (h.lt k hk) hc.size⟩
  · rw [hs]
    exact h1.chg hc fun k hk => by rintro rfl; exact h1.apart hb0 (by decide) hk
  · rw [hw]
    exact h2.chg hc fun k hk => by rintro rfl; exact h2.apart hb0 (by decide) hk
set_option maxHeartbeats 400000 in
theorem qin_any (bw : Nat) (F : Nat → Prop) (D : Dev) (n : Int) (w : World) (h : QAt w bw F D) :
    Calls Tryz.prog 48 #[.pointer (some ⟨bw, 0, none⟩), .int .i64 n] w fun e w' => e = .returned (.int .i64 (D.refused n)) ∧ w = w' := by
  obtain ⟨vs, vp, hb, hs, _, _, _⟩ := h.out
  obtain ⟨a, c, rfl⟩ := hs.shape
  have c4 : w.cell? ⟨bw, 4, none⟩ = some (.bool D.off) := hb.cell 4
  have c0 : w.cell? ⟨bw, 0, none⟩ = some (.slice a D.safe.length c) := hb.cell 0
  unfold Dev.refused
  generalize D.off = off at *
  generalize D.safe.length = N at *
  clear hb hs h
  cases off
  · by_cases hn : n < 0
    · go_enter Tryz.func48, Tryz.ntmps48
      go_wp2
      go_ret
      exact ⟨ret_i (by simp), rfl⟩
    · by_cases hN : (N : Int) ≤ n
      · go_enter Tryz.func48, Tryz.ntmps48
        go_wp2
        go_ret
        exact ⟨ret_i (by simp), rfl⟩
      · go_enter Tryz.func48, Tryz.ntmps48
        go_wp2
        go_ret
        exact ⟨ret_i (by simp), rfl⟩
  · go_enter Tryz.func48, Tryz.ntmps48
    go_wp2
    go_ret
    exact ⟨ret_i (by simp), rfl⟩
set_option maxHeartbeats 800000 in
theorem qstep_any (bw : Nat) (F : Nat → Prop) (D : Dev) (w : World) (h : QAt w bw F D) (ht : D.taken ≤ 1000000) (hf : D.fall ≤ 9223372036854775807) :
    Calls Tryz.prog 49 #[.pointer (some ⟨bw, 0, none⟩)] w fun e w' => e = .returned (.int .i64 (if D.goes then 0 else 7)) ∧ QAt w' bw F D.stepD ∧ Chg (fun k => k = bw) w w' ∧ w'.heap.size = w.heap.size := by
  obtain ⟨vs, vp, hb, _, _, _, _⟩ := h.out
  have c2 : w.cell? ⟨bw, 2, none⟩ = some (.int .i64 (D.taken : Int)) := hb.cell 2
  have c3 : w.cell? ⟨bw, 3, none⟩ = some (.int .i64 (D.fall : Int)) := hb.cell 3
  have c4 : w.cell? ⟨bw, 4, none⟩ = some (.bool D.off) := hb.cell 4
  have f2 := hb.free 2
  have f3 := hb.free 3
  have f4 := hb.free 4
  clear hb
  by_cases h1 : D.fall = 1
  · have hg : D.goes = false := by simp [Dev.goes, h1]
    have hS : D.stepD = { D with fall := 0, off := true } := by simp [Dev.stepD, h1]
    have hd : (((D.fall : Nat) : Int) == 1) = true := by rw [h1]; rfl
    have hR : QAt ((w.setCell ⟨bw, 3, none⟩ (.int .i64 0)).setCell ⟨bw, 4, none⟩ (.bool true)) bw F D.stepD := by
      refine h.three (by rw [hS]) (by rw [hS]) (fun vs vp hb => ?_) ?_
      · rw [hS]; exact (hb.setCell 3 (.int .i64 0)).setCell 4 (.bool true)
      · exact chg2 _ _ _ _ _ _
    have hC : Chg (fun k => k = bw) w ((w.setCell ⟨bw, 3, none⟩ (.int .i64 0)).setCell ⟨bw, 4, none⟩ (.bool true)) := chg2 _ _ _ _ _ _
    rw [hg]
    replace hR := Box.mk hR
    replace hC := Box.mk hC
    replace hg := Box.mk hg
    replace hS := Box.mk hS
    replace h1 := Box.mk h1
    replace h := Box.mk h
    generalize D.fall = fl at *
    generalize D.taken = tk at *
    generalize D.off = of at *
    obtain rfl : fl = 1 := h1.out
    clear hd
    go_enter Tryz.func49, Tryz.ntmps49
    go_wp2
    go_ret
    exact ⟨rfl, hR.out, hC.out, by simp⟩
  · have hg : D.goes = true := by simp [Dev.goes, h1]
    have hS : D.stepD = { D with fall := D.fall - 1, taken := D.taken + 1 } := by simp [Dev.stepD, h1]
    have hR0 : D.fall = 0 → QAt (w.setCell ⟨bw, 2, none⟩ (.int .i64 ((D.taken : Int) + 1))) bw F D.stepD := fun h0 => by
      refine h.three (by rw [hS]) (by rw [hS]) (fun vs vp hb => ?_) (chg1 _ _ _ _)
      rw [hS]
      have := hb.setCell 2 (.int .i64 ((D.taken : Int) + 1))
      simp only [h0] at this ⊢
      exact this
    have hR : QAt ((w.setCell ⟨bw, 3, none⟩ (.int .i64 ((D.fall - 1 : Nat) : Int))).setCell ⟨bw, 2, none⟩ (.int .i64 ((D.taken : Int) + 1))) bw F D.stepD := by
      refine h.three (by rw [hS]) (by rw [hS]) (fun vs vp hb => ?_) ?_
      · rw [hS]; exact (hb.setCell 3 _).setCell 2 _
      · exact chg2 _ _ _ _ _ _
    have hC : Chg (fun k => k = bw) w ((w.setCell ⟨bw, 3, none⟩ (.int .i64 ((D.fall - 1 : Nat) : Int))).setCell ⟨bw, 2, none⟩ (.int .i64 ((D.taken : Int) + 1))) := chg2 _ _ _ _ _ _
    rw [hg]
    replace hR := Box.mk hR
    replace hC := Box.mk hC
    replace hg := Box.mk hg
    replace hS := Box.mk hS
    replace h := Box.mk h
    generalize D.fall = fl at *
    generalize D.taken = tk at *
    generalize D.off = of at *
    by_cases h0 : fl = 0
    · subst h0
      replace hR0 := Box.mk (hR0 rfl)
      have hC0 := Box.mk (chg1 w bw 2 (.int .i64 ((tk : Int) + 1)))
      clear hR hC
      go_enter Tryz.func49, Tryz.ntmps49
      go_wp2
      go_ret
      exact ⟨rfl, hR0.out, hC0.out, by simp⟩
    · clear hR0
      have hd : ((fl : Int) == 1) = false := by rw [beq_eq_false_iff_ne]; omega
      have h2 : 2 ≤ fl := by omega
      have he : ((fl - 1 : Nat) : Int) = (fl : Int) - 1 := by omega
      rw [he] at hR hC
      clear he
      go_enter Tryz.func49, Tryz.ntmps49
      go_wp2
      go_ret
      exact ⟨rfl, hR.out, hC.out, by simp⟩

set_option maxHeartbeats 400000 in
theorem qfall_any (bw : Nat) (F : Nat → Prop) (D : Dev) (n : Int) (w : World) (h : QAt w bw F D) (hn : -9223372036854775808 ≤ n ∧ n ≤ 9223372036854775807) :
    Calls Tryz.prog 22 #[.pointer (some ⟨bw, 0, none⟩), .int .i64 n] w fun e w' => e = .returned (.tuple #[]) ∧ QAt w' bw F (D.falls n) ∧ Chg (fun k => k = bw) w w' := by
  obtain ⟨vs, vp, hb, _, _, _, _⟩ := h.out
  have c3 : w.cell? ⟨bw, 3, none⟩ = some (.int .i64 (D.fall : Int)) := hb.cell 3
  have f3 := hb.free 3
  clear hb
  have hR : QAt (w.setCell ⟨bw, 3, none⟩ (.int .i64 (max n 0))) bw F (D.falls n) :=
    h.three rfl rfl (fun vs vp hb => by
      have := hb.setCell 3 (.int .i64 (max n 0))
      simpa [Dev.falls, show ((max n 0).toNat : Int) = max n 0 by omega] using this) (chg1 _ _ _ _)
  have hC := chg1 w bw 3 (.int .i64 (max n 0))
  replace h := Box.mk h
  by_cases h0 : n < 0
  · rw [Int.max_eq_right (by omega)] at hR hC
    replace hR := Box.mk hR
    replace hC := Box.mk hC
    go_enter Tryz.func22, Tryz.ntmps22
    go_wp2
    go_returns
    first | exact ⟨rfl, hR.out, hC.out⟩ | (rw [Int.max_eq_right (by omega)]; exact ⟨rfl, hR.out, hC.out⟩)
  · rw [Int.max_eq_left (by omega)] at hR hC
    replace hR := Box.mk hR
    replace hC := Box.mk hC
    go_enter Tryz.func22, Tryz.ntmps22
    go_wp2
    go_returns
    first | exact ⟨rfl, hR.out, hC.out⟩ | (rw [Int.max_eq_left (by omega)]; exact ⟨rfl, hR.out, hC.out⟩)
end Go.Proofs.YtoaipjpbioaneaaGreat

namespace Go.Proofs.YtoaipjpbioaneaaGreat
open Go.RowKit

theorem runW_other (s : List Sec) (ws : List WrD) (n : Nat) : ∀ i, i ≤ ws.length → (∀ j (h : j < ws.length), i ≤ j → (ws[j]).1 ≠ n) → (runW s ws).getD n zeroS = (runW s (ws.take i)).getD n zeroS := by
  intro i hi
  obtain ⟨m, hm⟩ : ∃ m, ws.length - i = m := ⟨_, rfl⟩
  induction m generalizing i with
  | zero => intro _; rw [List.take_of_length_le (by omega)]
  | succ m ih =>
    intro hj
    rw [ih (i + 1) (by omega) (by omega) (fun j h h1 => hj j h (by omega)), List.take_succ_eq_append_getElem (show i < ws.length by omega), runW_snoc, List.getD_eq_getElem?_getD, List.getElem?_set_ne (hj i (by omega) (Nat.le_refl _)), ← List.getD_eq_getElem?_getD]
theorem runW_last (s : List Sec) (ws : List WrD) (n : Nat) (i : Nat) (hi : i < ws.length) (hn : n < s.length) (he : (ws[i]).1 = n) (h : ∀ j (h : j < ws.length), i + 1 ≤ j → (ws[j]).1 ≠ n) : (runW s ws).getD n zeroS = (ws[i]).2 := by
  rw [runW_other s ws n (i + 1) hi h, List.take_succ_eq_append_getElem hi, runW_snoc, he, List.getD_eq_getElem?_getD, List.getElem?_set_self (by rw [runW_length]; exact hn)]; rfl
end Go.Proofs.YtoaipjpbioaneaaGreat

namespace Go.Proofs.YtoaipjpbioaneaaGreat
open Go.RowKit

section
variable {P : Program} {w : World} {ops : Array Oper} {rest : List Oper} {o : Oper} {a : Act} {Q : Exit → Act → World → Prop}
theorem wpList_max (hgd : o.guard = none) (x y : Operand) (t : TypeId) (ho : o.op = .call { callee := .builtin .max, args := #[x, y], argTypes := #[t, t] }) (i j m : Int) (hx : a.eval x = .int .i64 i) (hy : a.eval y = .int .i64 j) (hm : (if i < j then j else i) = m)
    (k : wpList P ops Q rest (a.put o.dst (.int .i64 m)) w) : wpList P ops Q (o :: rest) a w := by
  refine wpList_plain hgd fun K hK => ?_
  have hk := hK _ _ k
  rw [← hm] at hk
  unfold Oper.wp execOp
  simp only [ho, resolve, invoke]
  simp [hx, hy, builtin, run_max_int2, Result.andThen]
  exact hk
end
theorem Ints.less {w : World} {G H : Nat → Prop} {v : Value} {l : List Int} (h : Ints w G v l) (hG : ∀ k, G k → H k) : Ints w H v l := by
  obtain ⟨a, c, e, hc⟩ := h.out
  exact ⟨a, c, e, fun h0 => by
    obtain ⟨cb, co, e1, e2, e3, e4⟩ := hc h0
    exact ⟨cb, co, e1, e2, hG _ e3, e4⟩⟩
theorem infoT : (Tryz.prog.info? 9).map (fun i => (i.zero, i.size, i.bytes)) = some (some (.string ⟨#[]⟩), 1, 16) := by kernel_rfl
theorem row_of_blk {w : World} {g : Nat} {xs : List Value} {e : TypeId} {size n : Nat} (h : Blk w g xs e) (hl : xs.length = n * size) (hn : n ≤ maxLen) : Row w e size (.slice (some ⟨g, 0, none⟩) n n) n xs :=
  ⟨hl, .inr ⟨g, n, xs.toArray, rfl, Nat.zero_le _, h, Nat.le_refl _, hn, by simpa using hl, by simp [← hl]⟩⟩
theorem strs_length (s : List Sec) : (strs s).length = s.length := by simp [strs]
theorem strs_set (s : List Sec) (n : Nat) (t : Sec) : (strs s).set n (.string (bt t)) = strs (s.set n t) := by unfold strs; rw [List.map_set]
theorem strs_one (s : List Sec) : ∀ u ∈ strs s, u.oneCell' = true := fun u hu => by
  obtain ⟨t, _, rfl⟩ := List.mem_map.1 hu
  rfl
/-- In settled's loop. -/
structure SL (w0 : World) (D : Dev) (keep : List Int) (g N c : Nat) (i : Nat) (w : World) : Prop where
  row : Row w 9 1 (.slice (some ⟨g, 0, none⟩) N c) N (strs (settleN keep D.safe D.ws i))
  k : Below w0.heap.size w0 w
  g : w0.heap.size ≤ g
theorem SL.keep {w0 w w' : World} {D : Dev} {keep : List Int} {g N c i : Nat} (h : SL w0 D keep g N c i w) (hb : Below w.heap.size w w') : SL w0 D keep g N c i w' :=
  ⟨h.row.chg (Chg.of_below hb) (fun k hk => by have := h.row.lt k hk; omega), h.k.trans (hb.mono h.k.size), h.g⟩
theorem SL.step {w0 w : World} {D : Dev} {keep : List Int} {g N c i : Nat} (h : SL w0 D keep g N c i w) (hok : D.ok) (hi : i < D.ws.length) :
    SL w0 D keep g N c (i + 1) (w.setCell ⟨g, (D.ws[i]).1, none⟩ (.string ((bt (D.ws[i]).2).extract 0 (keepAt keep i) ++ (bt ((settleN keep D.safe D.ws i).getD (D.ws[i]).1 zeroS)).extract (keepAt keep i) 64))) := by
  have hx := (World.ownsRow.stored h.row (D.ws[i]).1 (.string ((bt (D.ws[i]).2).extract 0 (keepAt keep i) ++ (bt ((settleN keep D.safe D.ws i).getD (D.ws[i]).1 zeroS)).extract (keepAt keep i) 64))).1
  rw [← tear_bt _ _ _ (okS_getD (okS_settleN hok.s hok.w i) _), strs_set] at hx
  rw [← tear_bt _ _ _ (okS_getD (okS_settleN hok.s hok.w i) _)]
  refine ⟨?_, h.k.trans ((Below.refl _ w).setCell (p := ⟨g, _, none⟩) h.g _), h.g⟩
  rw [settleN_succ _ _ _ _ hi]
  exact hx
set_option maxHeartbeats 1600000 in
theorem settled_fit (bw : Nat) (F : Nat → Prop) (D : Dev) (a : Option Addr) (c : Nat) (keep : List Int) (w : World) (h : QAt w bw F D) (h0 : 0 < D.safe.length) (hws : D.ws.length ≤ 1000000) (hI : Ints w (fun k => k < w.heap.size) (.slice a keep.length c) keep) (hkl : keep.length ≤ 9223372036854775807) :
    Calls Tryz.prog 45 #[.pointer (some ⟨bw, 0, none⟩), .slice a keep.length c] w fun e w' => ∃ v', e = .returned v' ∧ Row w' 9 1 v' D.safe.length (strs (settle keep D.safe D.ws)) ∧ (∀ k, v'.ownBlock = some k → w.heap.size ≤ k) ∧ Below w.heap.size w w' := by
  obtain ⟨vs, vp, hb, hs, hp, _, _⟩ := h.out
  obtain ⟨ga, gc, rfl, hgl⟩ := hs.some (by omega)
  obtain ⟨pa, pc, rfl⟩ := hp.shape
  have c0 : w.cell? ⟨bw, 0, none⟩ = some (.slice (some ⟨ga, 0, none⟩) D.safe.length gc) := hb.cell 0
  have hsB := Box.mk hs
  have hpB := Box.mk hp
  have hbB := Box.mk hb
  have hok := Box.mk h.ok
  replace h := Box.mk h
  replace hI := Box.mk hI
  clear hb hs hp
  obtain ⟨N, hN⟩ : ∃ N, D.safe.length = N := ⟨_, rfl⟩
  obtain ⟨M, hM⟩ : ∃ M, D.ws.length = M := ⟨_, rfl⟩
  rw [hN] at c0 hsB hbB
  rw [hM] at hpB hbB
  have hNm : N ≤ 4096 := by have := hok.out.n; omega
  have hbw := hbB.out.lt
  obtain ⟨wn, hwn⟩ : ∃ wn, w.alloc (.cells #[] 9) = wn := ⟨_, rfl⟩
  have hbn : Below w.heap.size w wn := hwn ▸ (Below.refl _ _).alloc (Nat.le_refl _) _
  have hn0 := Blk.new w [] 9
  rw [hwn] at hn0
  obtain ⟨bo, hbo⟩ : ∃ bo, w.heap.size = bo := ⟨_, rfl⟩
  rw [hbo] at hn0
  have c0n : wn.cell? ⟨bw, 0, none⟩ = some (.slice (some ⟨ga, 0, none⟩) N gc) := by rw [hbn.cell (p := ⟨bw, _, none⟩) hbw]; exact c0
  have hR0 : Row wn 9 1 (.slice (some ⟨bo, 0, none⟩) 0 0) 0 [] := row_of_blk hn0 rfl (Nat.zero_le _)
  have hRs : ∀ j u, (strs D.safe)[j]? = some u → wn.cell? ((⟨ga, 0, none⟩ : Addr).add j) = some u := fun j u hu => by
    have h1 := hsB.out.cells j u hu
    have hadd : (⟨ga, 0, none⟩ : Addr).add j = ⟨ga, j, none⟩ := by unfold Addr.add; split <;> simp_all
    rw [hadd, hbn.cell (p := ⟨ga, _, none⟩) hgl]; exact h1
  have hsl : (strs D.safe).length = N * 1 := by rw [strs_length, hN]; omega
  have h1c := strs_one D.safe
  obtain ⟨iT, hiT, hzT, hsT, hbT⟩ := info_parts infoT
  replace hR0 := Box.mk hR0
  replace hRs := Box.mk hRs
  replace hsl := Box.mk hsl
  replace h1c := Box.mk h1c
  replace hbn := Box.mk hbn
  have hH := Box.mk (And.intro hiT (And.intro hzT (And.intro hsT hbT)))
  replace hN := Box.mk hN
  replace hM := Box.mk hM
  clear hn0 hiT hzT hsT hbT c0 hsB
  go_enter Tryz.func45, Tryz.ntmps45
  go_wp2_with (refine wpList_pushR rfl (.tmp 9) (.tmp 13) 89 9 rfl iT (.string ⟨#[]⟩) 1 16 Tryz.underlying89 hH.out.1 hH.out.2.1 hH.out.2.2.1 hH.out.2.2.2 rfl (by omega) (.slice (some ⟨bo, 0, none⟩) 0 0) 0 [] rfl hR0.out ⟨ga, 0, none⟩ N gc (strs D.safe) rfl hsl.out hRs.out h1c.out (by unfold maxLen; omega) (by omega) ?_; intro vo w2 hpush)
  have hpr : Row w2 9 1 vo N (strs D.safe) := by
    have := hpush.row
    rw [Nat.zero_add] at this
    exact this
  obtain ⟨go, gcap, rfl, hgo⟩ := hpr.some (by have := hN.out; omega)
  have hgo2 : w.heap.size ≤ go := by
    rcases hpush.place go rfl with h1 | h1
    · obtain rfl : bo = go := by simpa [Value.ownBlock] using h1
      omega
    · have := hbn.out.size; omega
  have hS2 : Box (SL w D keep go N gcap 0 w2) := ⟨hpr, hbn.out.trans (hpush.chg.below hbn.out.size (fun j hj => by
    have : bo = j := by simpa [Value.ownBlock] using hj
    omega)), hgo2⟩
  clear hpush hpr hR0 hRs hsl h1c hH c0n hbn hgo hwn
  go_loopw [6] (fun s6 wr => ∃ i : Nat, i ≤ M ∧ s6 = .int .i64 i ∧ Box (SL w D keep go N gcap i wr)) (fun s6 _ => M - (intOf s6).toNat)
  case atStart => exact ⟨0, by omega, rfl, hS2⟩
  case round =>
    clear hS2
    obtain ⟨i, hi, rfl, hK⟩ := hrel
    have c1 : wr.cell? ⟨bw, 1, none⟩ = some (.slice pa M pc) := by
      rw [hK.out.k.cell (p := ⟨bw, _, none⟩) (by omega)]; exact hbB.out.cell 1
    by_cases hlt : i < M
    · have hil : i < D.ws.length := by have := hM.out; omega
      obtain ⟨ga2, gc2, he2, hg2⟩ := hpB.out.some (by omega)
      cases he2
      obtain ⟨w0, w1⟩ := wcs_get D.ws i hil
      have d0 := hpB.out.cells _ _ w0
      have d1 := hpB.out.cells _ _ w1
      rw [← hK.out.k.cell (p := ⟨ga2, _, none⟩) hg2] at d0 d1
      have hq : (D.ws[i]).1 < (settleN keep D.safe D.ws i).length := by rw [settleN_length]; exact (hok.out.w _ (List.getElem_mem hil)).1
      have hqN : (D.ws[i]).1 < N := by rw [settleN_length, hN.out] at hq; exact hq
      have ho := strs_get (settleN keep D.safe D.ws i) (D.ws[i]).1 hq
      have hz1 : (bt (D.ws[i]).2).size = 64 := (hok.out.w _ (List.getElem_mem hil)).2
      have hz2 : (bt ((settleN keep D.safe D.ws i).getD (D.ws[i]).1 zeroS)).size = 64 := okS_getD (okS_settleN hok.out.s hok.out.w i) _
      obtain ⟨q, hT1⟩ : ∃ q, (D.ws[i]).1 = q := ⟨_, rfl⟩
      obtain ⟨kk, hkk⟩ : ∃ kk, keepAt keep i = kk := ⟨_, rfl⟩
      rw [hT1] at d0 hq hqN ho hz2
      obtain ⟨Tb, hT2⟩ : ∃ T, bt (D.ws[i]).2 = T := ⟨_, rfl⟩
      obtain ⟨Ob, hT3⟩ : ∃ T, bt ((settleN keep D.safe D.ws i).getD q zeroS) = T := ⟨_, rfl⟩
      rw [hT2] at d1 hz1
      rw [hT3] at ho hz2
      have hk64 : kk ≤ 64 := by rw [← hkk]; exact keepAt_le _ _
      have hkv := hkk
      unfold keepAt at hkv
      replace hkk := Box.mk hkk
      replace hT1 := Box.mk hT1
      replace hT2 := Box.mk hT2
      replace hT3 := Box.mk hT3
      clear w0 w1 hq
      by_cases hk0 : keep.length = 0
      · have hke : keep = [] := List.eq_nil_of_length_eq_zero hk0
        rw [if_pos hke] at hkv
        subst hkv
        generalize hkl2 : keep.length = L at *
        subst hk0
        clear hke hkl2
        have hnew := Blk.new wr [.int .i64 (q : Int), .string Tb] 102
        obtain ⟨wk, hwk⟩ : ∃ wk, wr.alloc (.cells #[.int .i64 (q : Int), .string Tb] 102) = wk := ⟨_, rfl⟩
        have hK2 := hK.out.keep (hwk ▸ (Below.refl _ _).alloc (Nat.le_refl _) _ : Below wr.heap.size wr wk)
        rw [hwk] at hnew
        obtain ⟨b8, hb8⟩ : ∃ b8, wr.heap.size = b8 := ⟨_, rfl⟩
        rw [hb8] at hnew
        have e0 : wk.cell? ⟨b8, 0, none⟩ = some (.int .i64 (q : Int)) := hnew.cell 0
        have e1 : wk.cell? ⟨b8, 1, none⟩ = some (.string Tb) := hnew.cell 1
        have e2 : wk.cell? ⟨go, q, none⟩ = some (.string Ob) := hK2.row.cells q _ ho
        have e3 := World.ownsRow.frozenAt hK2.row q
        have hSt : ∀ r, Box (SL w D keep go N gcap (i + 1) ((wk.drewN r).setCell ⟨go, q, none⟩ (.string (Ob.extract 0 64)))) := fun r => ⟨by
          have := (hK2.keep (below_drewN _ wk r)).step hok.out hil
          rw [hkk.out, hT1.out, hT2.out, hT3.out] at this
          rw [show Tb.extract 0 0 ++ Ob.extract 0 64 = Ob.extract 0 64 by simp] at this
          exact this⟩
        replace hSt := Box.mk hSt
        clear hK hK2 hnew
        go_wp2_with fail
        refine region_quiet_tail (C := fun w' => ∃ n, w' = wk.drewN n) 16 rfl (by kernel_rfl) ⟨1, rfl⟩ ?_
        simp only [List.take, List.drop]
        repeat (go_big_quiet_step (first | exact fun _ => rfl | rfl))
        refine wpQuiet_nil ?_
        rintro w5 ⟨r, rfl⟩
        have hS5 := hSt.out r
        have f5 : (wk.drewN r).frozen? ⟨go, q, none⟩ = false := e3
        have c5 : (wk.drewN r).cell? ⟨go, q, none⟩ = some (.string Ob) := e2
        generalize wk.drewN r = w5 at hS5 f5 c5 ⊢
        clear hSt e0 e1 e2 e3
        go_wp2_with fail
        exact ⟨⟨i + 1, by omega, by go_num, hS5⟩, by simp [intOf]; omega⟩
      · obtain ⟨ai, ci, hiv, hic⟩ := hI.out.out
        cases hiv
        obtain ⟨cb, co, rfl, hcb, _, hcs⟩ := hic (by omega)
        have hml : i % keep.length < keep.length := Nat.mod_lt _ (by omega)
        have hcx := hcs _ hml
        rw [← hK.out.k.cell (p := ⟨cb, _, none⟩) hcb] at hcx
        have hm : (i : Int).tmod (keep.length : Int) = ((i % keep.length : Nat) : Int) := by rw [Int.tmod_eq_emod_of_nonneg (by omega)]; omega
        rw [if_neg (by rintro rfl; simp at hk0)] at hkv
        obtain ⟨x, hx⟩ : ∃ x, keep.getD (i % keep.length) 0 = x := ⟨_, rfl⟩
        rw [hx] at hkv hcx
        have hmx : Box ((if x < 0 then 0 else x) = max x 0) := ⟨by split <;> omega⟩
        have hmn : Box ((if (64 : Int) < max x 0 then 64 else max x 0) = (kk : Int)) := ⟨by rw [← hkv]; split <;> omega⟩
        clear hkv hx hcs hic hcb
        generalize i % keep.length = j at *
        generalize keep.length = L at *
        have hnew := Blk.new wr [.int .i64 (q : Int), .string Tb] 102
        obtain ⟨wk, hwk⟩ : ∃ wk, wr.alloc (.cells #[.int .i64 (q : Int), .string Tb] 102) = wk := ⟨_, rfl⟩
        have hK2 := hK.out.keep (hwk ▸ (Below.refl _ _).alloc (Nat.le_refl _) _ : Below wr.heap.size wr wk)
        rw [hwk] at hnew
        obtain ⟨b8, hb8⟩ : ∃ b8, wr.heap.size = b8 := ⟨_, rfl⟩
        rw [hb8] at hnew
        have e0 : wk.cell? ⟨b8, 0, none⟩ = some (.int .i64 (q : Int)) := hnew.cell 0
        have e1 : wk.cell? ⟨b8, 1, none⟩ = some (.string Tb) := hnew.cell 1
        have e2 : wk.cell? ⟨go, q, none⟩ = some (.string Ob) := hK2.row.cells q _ ho
        have e3 := World.ownsRow.frozenAt hK2.row q
        have hSt : ∀ r, Box (SL w D keep go N gcap (i + 1) ((wk.drewN r).setCell ⟨go, q, none⟩ (.string (Tb.extract 0 kk ++ Ob.extract kk 64)))) := fun r => ⟨by
          have := (hK2.keep (below_drewN _ wk r)).step hok.out hil
          rw [hkk.out, hT1.out, hT2.out, hT3.out] at this
          exact this⟩
        replace hSt := Box.mk hSt
        clear hK hK2 hnew
        go_wp2_with (first | (refine wpList_max rfl (.tmp 33) (.const (.int .i64 0)) 3 rfl x 0 (max x 0) rfl rfl hmx.out ?_) | (refine wpList_min rfl (.tmp 34) (.const (.int .i64 64)) 3 rfl (max x 0) 64 (kk : Int) rfl rfl hmn.out ?_))
        refine region_quiet_tail (C := fun w' => ∃ n, w' = wk.drewN n) 16 rfl (by kernel_rfl) ⟨1, rfl⟩ ?_
        simp only [List.take, List.drop]
        repeat (go_big_quiet_step (first | exact fun _ => rfl | rfl))
        refine wpQuiet_nil ?_
        rintro w5 ⟨r, rfl⟩
        have hS5 := hSt.out r
        have f5 : (wk.drewN r).frozen? ⟨go, q, none⟩ = false := e3
        have c5 : (wk.drewN r).cell? ⟨go, q, none⟩ = some (.string Ob) := e2
        generalize wk.drewN r = w5 at hS5 f5 c5 ⊢
        clear hSt e0 e1 e2 e3
        go_wp2_with fail
        have hkx : (min (max x 0) 64).toNat = kk := by
          have := hmn.out
          split at this <;> omega
        first
          | exact ⟨⟨i + 1, by omega, by go_num, hS5⟩, by simp [intOf]; omega⟩
          | (rw [hkx]; exact ⟨⟨i + 1, by omega, by go_num, hS5⟩, by simp [intOf]; omega⟩)
    · have hi2 : i = M := by omega
      subst hi2
      go_wp2_with fail
      go_ret
      have hr := hK.out.row
      refine ⟨_, rfl, ?_, fun k hk => ?_, hK.out.k⟩
      · rw [hN.out]
        unfold settle
        rw [hM.out]
        exact hr
      · obtain rfl : go = k := by simpa [Value.ownBlock] using hk
        exact hgo2
end Go.Proofs.YtoaipjpbioaneaaGreat

namespace Go.Proofs.YtoaipjpbioaneaaGreat
open Go.RowKit

theorem q_settled {w w2 w3 : World} {bw : Nat} {F : Nat → Prop} {D D' : Dev} {v : Value} (h : QAt w bw F D) (hk : Below w.heap.size w w2) (hr : Row w2 9 1 v D'.safe.length (strs D'.safe)) (hv : ∀ k, v.ownBlock = some k → w.heap.size ≤ k) (hws : D'.ws = []) (hok : D'.ok)
    (hc : Chg (fun k => k = bw) w2 w3) (hb : Blk w3 bw [v, .slice none 0 0, .int .i64 (D'.taken : Int), .int .i64 (D'.fall : Int), .bool D'.off] 96) : QNext w bw F D' w3 := by
  have hl := h.lt bw h.fd
  have hs1 := hk.size
  have hs2 := hc.size
  refine ⟨⟨hok, ⟨v, .slice none 0 0, hb, hr.chg hc (fun k hk e => by have := hv k hk; omega), by rw [hws]; exact Row.nil _ _ _, fun k hk => .inr ⟨hv k hk, by have := hr.lt k hk; omega⟩, fun k hk => by cases hk⟩, .inl h.fd, fun k hk => ?_⟩, ?_⟩
  · rcases hk with hk | hk
    · have := h.lt k hk; omega
    · exact hk.2
  · exact ((Chg.of_below hk).mono (fun i h1 h2 => by omega)).trans hc (fun i _ hi => by rw [hi]; exact h.fd)
/-- What settled answers. -/
def Sett (w : World) (l : List Sec) (e : Ending) (w' : World) : Prop := ∃ v', e = .returned v' ∧ Row w' 9 1 v' l.length (strs l) ∧ (∀ k, v'.ownBlock = some k → w.heap.size ≤ k) ∧ Below w.heap.size w w'
theorem settle_length (keep : List Int) (s : List Sec) (ws : List WrD) : (settle keep s ws).length = s.length := settleN_length _ _ _ _
/-- settled of 64, a slice that was just made. -/
theorem settled_64 (bw : Nat) (F : Nat → Prop) (D : Dev) (w wn : World) (h : QAt w bw F D) (h0 : 0 < D.safe.length) (hws : D.ws.length ≤ 1000000) (hwn : w.alloc (.cells #[.int .i64 64] 3) = wn) :
    Calls Tryz.prog 45 #[.pointer (some ⟨bw, 0, none⟩), .slice (some ⟨w.heap.size, 0, none⟩) 1 1] wn (Sett w D.seen) := by
  have hb : Below w.heap.size w wn := hwn ▸ (Below.refl _ _).alloc (Nat.le_refl _) _
  have hn := Blk.new w [.int .i64 64] 3
  rw [hwn] at hn
  have hI : Ints wn (fun k => k < wn.heap.size) (.slice (some ⟨w.heap.size, 0, none⟩) 1 1) [64] :=
    ⟨⟨_, 1, rfl, fun _ => ⟨w.heap.size, 0, rfl, hn.lt, hn.lt, fun i hi => by
      obtain rfl : i = 0 := by simpa using hi
      exact hn.cell 0⟩⟩⟩
  refine (settled_fit bw F D _ 1 [64] wn (h.below hb) h0 hws hI (by simp)).mono fun e w' ⟨v', a, b, c, d⟩ => ⟨v', a, ?_, fun k hk => Nat.le_trans hb.size (c k hk), hb.trans (d.mono hb.size)⟩
  rw [settle_all h.ok.s h.ok.w] at b
  rw [Dev.ok.seen_len]
  exact b
set_option maxHeartbeats 400000 in
theorem qall_any (bw : Nat) (F : Nat → Prop) (D : Dev) (w : World) (h : QAt w bw F D) (h0 : 0 < D.safe.length) (hws : D.ws.length ≤ 1000000) :
    Calls Tryz.prog 71 #[.pointer (some ⟨bw, 0, none⟩)] w (Sett w D.seen) := by
  obtain ⟨wn, hwn⟩ : ∃ wn, w.alloc (.cells #[.int .i64 64] 3) = wn := ⟨_, rfl⟩
  have hS := Box.mk (settled_64 bw F D w wn h h0 hws hwn)
  go_enter Tryz.func71, Tryz.ntmps71
  go_wp2_with fail
  refine hS.out.mono ?_
  rintro e w' ⟨v', rfl, h1, h2, h3⟩
  clear hS
  go_wp2_with fail
  go_ret
  exact ⟨v', rfl, h1, h2, h3⟩
set_option maxHeartbeats 1600000 in
theorem qbarrier_any (bw : Nat) (F : Nat → Prop) (D : Dev) (w : World) (h : QAt w bw F D) (h0 : 0 < D.safe.length) (hws : D.ws.length ≤ 1000000) (ht : D.taken ≤ 1000000) (hf : D.fall ≤ 9223372036854775807) :
    Calls Tryz.prog 76 #[.pointer (some ⟨bw, 0, none⟩)] w fun e w' => e = .returned (.int .i64 D.barrierE) ∧ QNext w bw F D.barrier w' := by
  obtain ⟨vs, vp, hb, hs, _, _, _⟩ := h.out
  have c4 : w.cell? ⟨bw, 4, none⟩ = some (.bool D.off) := hb.cell 4
  unfold Dev.barrierE Dev.barrier
  cases hoff : D.off
  · simp only [Bool.false_eq_true, if_false]
    rw [hoff] at c4
    have hSt := qstep_any bw F D w h ht hf
    have hbw := h.lt bw h.fd
    cases hg : D.goes
    · rw [hg] at hSt
      simp only [Bool.false_eq_true, if_false]
      have hSt := Box.mk hSt
      replace h := Box.mk h
      clear hb hs hoff
      go_enter Tryz.func76, Tryz.ntmps76
      go_wp2_with fail
      refine hSt.out.mono ?_
      rintro e w2 ⟨rfl, hq, hc, hz⟩
      simp only [Bool.false_eq_true, if_false]
      clear hSt
      go_wp2_with fail
      go_ret
      exact ⟨rfl, hq.wide (fun _ hk => .inl hk) (fun k hk => by rcases hk with hk | hk; exact hq.lt k hk; exact hk.2), hc.mono (fun i _ hi => by rw [hi]; exact h.out.fd)⟩
    · rw [hg] at hSt
      simp only [if_true]
      have hSt := Box.mk hSt
      replace h := Box.mk h
      clear hb hs hoff
      go_enter Tryz.func76, Tryz.ntmps76
      go_wp2_with fail
      refine hSt.out.mono ?_
      rintro e w2 ⟨rfl, hq, hc, hz⟩
      simp only [if_true]
      clear hSt
      have hl2 : D.stepD.safe = D.safe ∧ D.stepD.ws = D.ws := ⟨Dev.step_safe D, Dev.step_ws D⟩
      obtain ⟨wn, hwn⟩ : ∃ wn, w2.alloc (.cells #[.int .i64 64] 3) = wn := ⟨_, rfl⟩
      have hS := Box.mk (settled_64 bw F D.stepD w2 wn hq (by rw [hl2.1]; exact h0) (by rw [hl2.2]; exact hws) hwn)
      replace hq := Box.mk hq
      replace hc := Box.mk hc
      replace hz := Box.mk hz
      replace hl2 := Box.mk hl2
      go_wp2_with fail
      refine hS.out.mono ?_
      rintro e w4 ⟨v', rfl, h1, h2, h3⟩
      clear hS
      obtain ⟨a', c', rfl⟩ := h1.shape
      obtain ⟨us, up, hb2, _⟩ := hq.out.out
      have hb4 : Blk w4 bw _ _ := (h3.block bw hb2.lt).trans hb2
      have g0 : w4.cell? ⟨bw, 0, none⟩ = some us := hb4.cell 0
      have g1 : w4.cell? ⟨bw, 1, none⟩ = some up := hb4.cell 1
      have f0 := hb4.free 0
      have f1 := hb4.free 1
      have hfin : Box (∀ w', (w4.setCell ⟨bw, 0, none⟩ (.slice a' D.stepD.seen.length c')).setCell ⟨bw, 1, none⟩ (.slice none 0 0) = w' → QNext w bw F { D.stepD with safe := D.seen, ws := [] } w') := ⟨fun w' hw' => by
        have hsn : D.stepD.seen = D.seen := by unfold Dev.seen; rw [hl2.out.1, hl2.out.2]
        have hok : ({ D.stepD with safe := D.seen, ws := [] } : Dev).ok := ⟨h.out.ok.seen, okW_nil _, by have := h.out.ok.n; simp only; rw [Dev.ok.seen_len]; exact this⟩
        rw [hsn] at h1 h2 hw'
        have hn : QNext w2 bw F { D.stepD with safe := D.seen, ws := [] } w' := by
          refine q_settled hq.out h3 h1 h2 rfl hok ?_ ?_
          · rw [← hw']; exact chg2 _ _ _ _ _ _
          · rw [← hw']; exact (hb4.setCell 0 _).setCell 1 _
        refine ⟨?_, (hc.out.mono (fun i _ hi => by rw [hi]; exact h.out.fd)).trans hn.chg (fun _ _ h => h)⟩
        rw [← hz.out]
        exact hn.at_⟩
      clear h1 h2 h3 hb4 hb2
      generalize D.stepD.seen.length = NN at *
      go_wp2_with fail
      go_ret
      exact ⟨rfl, hfin.out _ rfl⟩
  · rw [if_pos rfl, if_pos rfl]
    rw [hoff] at c4
    clear hb hs hoff
    go_enter Tryz.func76, Tryz.ntmps76
    go_wp2_with fail
    go_ret
    exact ⟨rfl, QNext.same h⟩
set_option maxHeartbeats 1600000 in
theorem qcrash_any (bw : Nat) (F : Nat → Prop) (D : Dev) (a : Option Addr) (c : Nat) (keep : List Int) (w : World) (h : QAt w bw F D) (h0 : 0 < D.safe.length) (hws : D.ws.length ≤ 1000000) (hI : Ints w (fun k => k < w.heap.size) (.slice a keep.length c) keep) (hkl : keep.length ≤ 9223372036854775807) :
    Calls Tryz.prog 23 #[.pointer (some ⟨bw, 0, none⟩), .agg #[.slice a keep.length c]] w fun e w' => e = .returned (.tuple #[]) ∧ QNext w bw F (D.crash keep) w' := by
  obtain ⟨wn, hwn⟩ : ∃ wn, w.alloc (.cells #[.slice a keep.length c] 25) = wn := ⟨_, rfl⟩
  have hbn : Below w.heap.size w wn := hwn ▸ (Below.refl _ _).alloc (Nat.le_refl _) _
  have hnew := Blk.new w [.slice a keep.length c] 25
  rw [hwn] at hnew
  obtain ⟨bo, hbo⟩ : ∃ bo, w.heap.size = bo := ⟨_, rfl⟩
  rw [hbo] at hnew
  have e0 : wn.cell? ⟨bo, 0, none⟩ = some (.slice a keep.length c) := hnew.cell 0
  have hs := hbn.size
  have hS := Box.mk (settled_fit bw F D a c keep wn (h.below hbn) h0 hws ((hI.chg (Chg.of_below hbn) (fun k hk _ => by omega)).less (fun k hk => by omega)) hkl)
  replace h := Box.mk h
  replace hbn := Box.mk hbn
  clear hnew hI
  generalize hvl : keep.length = vl at *
  go_enter Tryz.func23, Tryz.ntmps23
  go_wp2_with fail
  refine hS.out.mono ?_
  rintro e w4 ⟨v', rfl, h1, h2, h3⟩
  clear hS
  obtain ⟨a', c', rfl⟩ := h1.shape
  obtain ⟨us, up, hb2, _⟩ := h.out.out
  have h34 := hbn.out.trans (h3.mono hbn.out.size)
  have hb4 : Blk w4 bw _ _ := (h34.block bw hb2.lt).trans hb2
  have g0 : w4.cell? ⟨bw, 0, none⟩ = some us := hb4.cell 0
  have g1 : w4.cell? ⟨bw, 1, none⟩ = some up := hb4.cell 1
  have g3 : w4.cell? ⟨bw, 3, none⟩ = some (.int .i64 (D.fall : Int)) := hb4.cell 3
  have g4 : w4.cell? ⟨bw, 4, none⟩ = some (.bool D.off) := hb4.cell 4
  have f0 := hb4.free 0
  have f1 := hb4.free 1
  have f3 := hb4.free 3
  have f4 := hb4.free 4
  have hfin : Box (∀ w', (((w4.setCell ⟨bw, 0, none⟩ (.slice a' D.safe.length c')).setCell ⟨bw, 1, none⟩ (.slice none 0 0)).setCell ⟨bw, 3, none⟩ (.int .i64 0)).setCell ⟨bw, 4, none⟩ (.bool false) = w' → QNext w bw F (D.crash keep) w') := ⟨fun w' hw' => by
    refine q_settled h.out h34 (v := .slice a' D.safe.length c') ?_ (fun k hk => Nat.le_trans hs (h2 k hk)) rfl (h.out.ok.crash keep) ?_ ?_
    · rw [show (D.crash keep).safe = settle keep D.safe D.ws from rfl, settle_length]; exact h1
    · rw [← hw']; exact (chg2 w4 bw 0 1 _ _).trans (chg2 _ bw 3 4 _ _) (fun _ _ h => h)
    · rw [← hw']; exact (((hb4.setCell 0 _).setCell 1 _).setCell 3 _).setCell 4 _⟩
  clear h1 h2 h3 hb4 hb2 h34
  generalize D.safe.length = NN at *
  go_wp2_with fail
  go_returns
  exact ⟨rfl, hfin.out _ rfl⟩
end Go.Proofs.YtoaipjpbioaneaaGreat

namespace Go.Proofs.YtoaipjpbioaneaaGreat
open Go.RowKit

section
variable {P : Program} {w : World} {o : Oper} {a : Act} {Q : Exit → Act → World → Prop}
theorem wp_make {K : Act → World → Prop} (l c : Operand) (t : TypeId) (hop : o.op = Op.makeSlice t l c) (base : Nat) (e : TypeId) (i : TypeInfo) (z : Value) (size : Nat) (h1 : P.underlying t = some (.slice e)) (h2 : P.info? e = some i) (h3 : i.zero = some z) (h4 : i.size = size)
    (kl kc : IntKind) (L C : Int) (n : Nat) (hl : a.eval l = .int kl L) (hc : a.eval c = .int kc C) (hL : L = (n : Int)) (hC : C = (n : Int)) (b2 : i.bytes * n ≤ 281474976710656) (b3 : n ≤ maxLen) (b4 : base ≤ w.heap.size)
    (k : ∀ w', w'.ownsRow base e size (.slice (some ⟨w.heap.size, 0, none⟩) n n) n (madeCells z.cells (n * size)).toList → w.grownBy w' none → K (a.put o.dst (.slice (some ⟨w.heap.size, 0, none⟩) n n)) w') : o.wp P a w K Q := by
  obtain ⟨w', hrun, r1, r2⟩ := run_make_full (P := P) w base t e i z size h1 h2 h3 h4 kl kc n b2 b3 b4
  subst hL
  subst hC
  unfold Oper.wp
  simp [execOp, hop, hl, hc, hrun, Result.andThen]
  exact k w' r1 r2
end
theorem zeros_conv (w : World) (g base n : Nat) (h : w.ownsRow base 5 1 (.slice (some ⟨g, 0, none⟩) n n) n (madeCells (Value.int .u8 0).cells (n * 1)).toList) :
    (convert 84 9 (.slice (some ⟨g, 0, none⟩) n n)).run Tryz.prog w = .ok (.string (bt (List.replicate n 0))) w := by
  have e : (madeCells (Value.int .u8 0).cells (n * 1)).toList = (List.replicate n (0 : UInt8)).map yc := by
    have := toList_madeCells_one (.int .u8 0) (n * 1)
    rw [Nat.mul_one] at this
    rw [Nat.mul_one, List.map_replicate]
    exact this
  rw [e] at h
  have hx : w.rangeAt g 0 ((List.replicate n (0 : UInt8)).map yc) := fun j v hv => by
    have := World.ownsRow.cells (g := g) h rfl j v hv
    rw [Addr.add_mid] at this
    exact this
  have := bytes_conv w g 0 n (List.replicate n (0 : UInt8)) hx
  rw [List.length_replicate] at this
  exact this
theorem info5' : (Tryz.prog.info? 5).map (fun i => (i.zero, i.size, i.bytes)) = some (some (.int .u8 0), 1, 1) := by kernel_rfl
theorem infoV : (Tryz.prog.info? 102).map (fun i => (i.zero, i.size, i.bytes)) = some (some (.agg #[.int .i64 0, .string ⟨#[]⟩]), 2, 24) := by kernel_rfl
theorem q_written {w w2 w3 w5 : World} {bw : Nat} {F : Nat → Prop} {D : Dev} {n : Nat} {t : List UInt8} {vs vp v' : Value} (h : QAt w bw F D) (hn : n < D.safe.length) (ht : t.length ≤ 64) (hc : Chg (fun k => k = bw) w w2) (hz : w2.heap.size = w.heap.size)
    (hb : Blk w2 bw [vs, vp, .int .i64 (D.stepD.taken : Int), .int .i64 (D.stepD.fall : Int), .bool D.stepD.off] 96) (hs : Row w2 9 1 vs D.safe.length (strs D.safe)) (hp : Row w2 102 2 vp D.ws.length (wcs D.ws))
    (hF1 : ∀ k, vs.ownBlock = some k → F k) (hF2 : ∀ k, vp.ownBlock = some k → F k) (hB : Below w2.heap.size w2 w3)
    (hrow : Row w5 102 2 v' (D.ws.length + 1) (wcs D.ws ++ [.int .i64 (n : Int), .string (bt (padS t))])) (hch : Chg (fun k => vp.ownBlock = some k) w3 w5) (hpl : ∀ k, v'.ownBlock = some k → vp.ownBlock = some k ∨ w3.heap.size ≤ k) :
    QNext w bw F { D.stepD with ws := D.ws ++ [(n, padS t)] } (w5.setCell ⟨bw, 1, none⟩ v') := by
  have hs1 := hB.size
  have hs2 := hch.size
  have hb3 : Blk w3 bw _ _ := (hB.block bw hb.lt).trans hb
  have hbp : ∀ k, vp.ownBlock = some k → bw ≠ k := fun k hk => by rintro rfl; exact hp.apart hb (by decide) hk
  have hb5 := hch.blk hb3 (fun hk => hbp bw hk rfl)
  have hs3 := hs.chg (Chg.of_below hB) (fun k hk => by have := hs.lt k hk; omega)
  have hs5 := hs3.chg hch (fun k hk hk2 => hs.unlike hp (by decide) k hk hk2)
  have hc6 := chg1 w5 bw 1 v'
  have hbs : ∀ k, vs.ownBlock = some k → ¬ k = bw := fun k hk => by rintro rfl; exact hs.apart hb (by decide) hk
  have hb6 := hb5.setCell 1 v'
  have hbv : ∀ k, v'.ownBlock = some k → ¬ k = bw := fun k hk => by
    rintro rfl
    rcases hpl k hk with h1 | h1
    · exact hbp k h1 rfl
    · have := hb.lt; omega
  refine ⟨⟨⟨?_, ?_, ?_⟩, ⟨vs, v', hb6, ?_, ?_, fun k hk => .inl (hF1 k hk), fun k hk => ?_⟩, .inl h.fd, fun k hk => ?_⟩, ?_⟩
  · exact (Dev.step_safe D) ▸ h.ok.s
  · simp only [Dev.step_safe]
    exact okW_snoc h.ok.w hn (padS_length t ht)
  · simp only [Dev.step_safe]; exact h.ok.n
  · simp only [Dev.step_safe]
    exact hs5.chg hc6 (fun k hk => hbs k hk)
  · simp only [List.length_append, List.length_singleton, wcs_app]
    exact hrow.chg hc6 (fun k hk => hbv k hk)
  · have hl := hrow.lt k hk
    rcases hpl k hk with h1 | h1
    · exact .inl (hF2 k h1)
    · exact .inr ⟨by omega, by have := hc6.size; omega⟩
  · have h6 := hc6.size
    rcases hk with hk | hk
    · have := h.lt k hk; omega
    · exact hk.2
  · have k1 := hc.mono (T := F) (fun i _ hi => by rw [hi]; exact h.fd)
    have k2 := k1.trans ((Chg.of_below hB).mono (T := F) (fun i h1 h2 => by omega)) (fun _ _ h => h)
    have k3 := k2.trans (hch.mono (T := F) (fun i _ hi => hF2 i hi)) (fun _ _ h => h)
    exact k3.trans hc6 (fun i _ hi => by rw [hi]; exact h.fd)
set_option linter.unusedSimpArgs false in
set_option maxHeartbeats 3200000 in
set_option maxRecDepth 100000 in
theorem qwrite_fit (bw : Nat) (F : Nat → Prop) (D : Dev) (n : Nat) (t : ByteArray) (w : World) (h : QAt w bw F D) (hr : D.refused n = 0) (hn : n < D.safe.length) (ht : t.size ≤ 64) (hg : D.goes = true) (hk : D.taken ≤ 1000000) (hf : D.fall ≤ 9223372036854775807) (hws : D.ws.length ≤ 1000000) :
    Calls Tryz.prog 25 #[.pointer (some ⟨bw, 0, none⟩), .int .i64 (n : Int), .string t] w fun e w' => e = .returned (.int .i64 0) ∧ QNext w bw F { D.stepD with ws := D.ws ++ [(n, padS t.data.toList)] } w' := by
  have hIn := Box.mk (qin_any bw F D n w h)
  rw [hr] at hIn
  have hSt := qstep_any bw F D w h hk hf
  rw [hg] at hSt
  replace hSt := Box.mk hSt
  replace h := Box.mk h
  go_enter Tryz.func25, Tryz.ntmps25
  go_wp2_with fail
  refine hIn.out.mono ?_
  rintro e w' ⟨rfl, rfl⟩
  clear hIn
  go_wp2_with fail
  refine hSt.out.mono ?_
  rintro e w2 ⟨rfl, hq, hc, hz⟩
  simp only [if_true]
  clear hSt
  obtain ⟨vs, vp, hb, hs, hp, hF1, hF2⟩ := hq.out
  rw [Dev.step_safe] at hs
  rw [Dev.step_ws] at hp
  obtain ⟨pa, pc, rfl⟩ := hp.shape
  obtain ⟨iV, hiV, hzV, hsV, hbV⟩ := info_parts infoV
  obtain ⟨i5, hi5, hz5, hz51, hz52⟩ := info_parts info5'
  have hH := Box.mk (And.intro hiV (And.intro hzV (And.intro hsV hbV)))
  have hG := Box.mk (And.intro hi5 (And.intro hz5 (And.intro hz51 hz52)))
  have hbd : Box (Blk w2.drew bw _ 96) := ⟨hb⟩
  have hsd : Box (Row w2.drew 9 1 _ _ _) := ⟨hs⟩
  have hpd : Box (Row w2.drew 102 2 _ _ _) := ⟨hp⟩
  have hcd := Box.mk hc.drew
  have hzd : Box (w2.drew.heap.size = w.heap.size) := ⟨hz⟩
  replace hF1 := Box.mk hF1
  replace hF2 := Box.mk hF2
  clear hb hs hp hq hc hz hiV hzV hsV hbV hi5 hz5 hz51 hz52
  go_wp2_with fail
  refine region_go (C := fun _ => True) rfl ?_
  generalize w2.drew = wd at hbd hsd hpd hcd hzd ⊢
  obtain ⟨M, hM⟩ : ∃ M, D.ws.length = M := ⟨_, rfl⟩
  rw [hM] at hpd hws hF2 hbd
  obtain ⟨m, hm⟩ : ∃ m, 64 - t.size = m := ⟨_, rfl⟩
  have hml : Box ((64 : Int) - (t.size : Int) = (m : Int)) := ⟨by omega⟩
  have hm64 : m ≤ 64 := by omega
  replace hM := Box.mk hM
  replace hm := Box.mk hm
  have c1 : wd.cell? ⟨bw, 1, none⟩ = some (.slice pa M pc) := hbd.out.cell 1
  refine go_calms [0, 1, 2, 3, 5, 6, 7] 12 rfl (by kernel_rfl) (by kernel_rfl) (by kernel_rfl) True.intro ?_
  simp [nth]
  repeat (go_big_quiet_step (first | exact fun _ => rfl | rfl))
  refine wpQuiet_nil ?_
  refine go_calm 8 (by kernel_rfl) rfl (by kernel_rfl) (by kernel_rfl) True.intro (yields (v := .int .i64 (t.size : Int)) rfl (fun w' hw' => by go_simp)) ?_
  simp only [Act.put, List.setIfInBounds_toArray, List.set_cons_succ, List.set_cons_zero]
  refine go_calm 9 (by kernel_rfl) rfl (by kernel_rfl) (by kernel_rfl) True.intro (yields (v := .int .i64 (m : Int)) rfl (fun w' hw' => by go_simp; rw [IntWalk.i64_in _ (by omega)]; exact hml.out)) ?_
  simp only [Act.put, List.setIfInBounds_toArray, List.set_cons_succ, List.set_cons_zero]
  have hpz : Box (t ++ bt (List.replicate m 0) = bt (padS t.data.toList)) := ⟨by unfold padS; rw [bt_app, bt_of, data_len, hm.out]⟩
  have Bwd : Below wd.heap.size wd wd := Below.refl _ _
  refine go_fork 4 10 (by kernel_rfl) (goOp_wp 4 rfl rfl (fun K hK => ?_)) (goOp_wp 10 rfl rfl (fun K hK => ?_))
  · skip
    have k1wd : Blk wd bw _ _ := (Bwd.block bw hbd.out.lt).trans hbd.out
    have c1wd : wd.cell? ⟨bw, 1, none⟩ = some (.slice pa M pc) := k1wd.cell 1
    go_simp
    refine hK _ _ True.intro ?_
    clear hK K c1wd k1wd
    refine go_forced 10 (by kernel_rfl) (goOp_wp 10 rfl rfl (fun K hK => ?_))
    refine wp_make (.tmp 33) (.tmp 33) 84 rfl wd.heap.size 5 i5 (.int .u8 0) 1 Tryz.underlying84 hG.out.1 hG.out.2.1 hG.out.2.2.1 .i64 .i64 _ _ m rfl rfl rfl rfl (by rw [hG.out.2.2.2]; omega) (by unfold maxLen; omega) (Nat.le_refl _) ?_
    intro wm hown hgr
    have hconv := zeros_conv wm _ _ _ hown
    have Bwm : Below wd.heap.size wd wm := ⟨hgr.os, hgr.tape, hgr.output, hgr.size, fun k hk => hgr.block k hk (by simp)⟩
    refine hK _ _ True.intro ?_
    clear hK K hown hgr
    simp only [Act.put, List.setIfInBounds_toArray, List.set_cons_succ, List.set_cons_zero]
    refine go_forced 11 (by kernel_rfl) (goOp_wp 11 rfl rfl (fun K hK => ?_))
    go_simp
    refine hK _ _ True.intro ?_
    clear hK K hconv
    refine go_calm 12 (by kernel_rfl) rfl (by kernel_rfl) (by kernel_rfl) True.intro (yields (v := .string (bt (padS t.data.toList))) rfl (fun w' hw' => by go_simp; rw [hpz.out, if_neg (by rw [bt_size, List.length_replicate]; omega)])) ?_
    simp only [Act.put, List.setIfInBounds_toArray, List.set_cons_succ, List.set_cons_zero]
    refine go_calm 13 (by kernel_rfl) rfl (by kernel_rfl) (by kernel_rfl) True.intro (yields (v := .agg #[.int .i64 (n : Int), .string (bt (padS t.data.toList))]) rfl (fun w' hw' => by go_simp)) ?_
    simp only [Act.put, List.setIfInBounds_toArray, List.set_cons_succ, List.set_cons_zero]
    refine go_forced 14 (by kernel_rfl) (goOp_wp 14 rfl rfl (fun K hK => ?_))
    have hnb := Blk.new wm [.int .i64 (n : Int), .string (bt (padS t.data.toList))] 102
    obtain ⟨wk, hwk⟩ : ∃ wk, wm.alloc (.cells #[.int .i64 (n : Int), .string (bt (padS t.data.toList))] 102) = wk := ⟨_, rfl⟩
    have Bwk0 : Below wm.heap.size wm wk := hwk ▸ (Below.refl _ _).alloc (Nat.le_refl _) _
    have Bwk : Below wd.heap.size wd wk := Bwm.trans (Bwk0.mono Bwm.size)
    rw [hwk] at hnb
    go_simp
    refine hK _ _ True.intro ?_
    clear hK K hwk Bwk0
    refine go_forced 15 (by kernel_rfl) (goOp_wp 15 rfl rfl (fun K hK => ?_))
    refine wp_pushR (.tmp 28) (.tmp 38) 94 102 rfl iV (.agg #[.int .i64 0, .string ⟨#[]⟩]) 2 24 Tryz.underlying94 hH.out.1 hH.out.2.1 hH.out.2.2.1 hH.out.2.2.2 rfl (by omega) (.slice pa M pc) M (wcs D.ws) rfl (hpd.out.chg (Chg.of_below Bwk) (fun k hk => by have := hpd.out.lt k hk; omega)) ⟨wm.heap.size, 0, none⟩ 1 1 [.int .i64 (n : Int), .string (bt (padS t.data.toList))] rfl rfl (fun j u hu => by rw [Addr.add_mid]; rw [← hu, Nat.zero_add]; exact hnb.cell j) (fun u hu => by rcases (show u = _ ∨ u = _ by simpa using hu) with rfl | rfl <;> rfl) (by unfold maxLen; omega) (by omega) ?_
    intro v7 w7 hp7
    obtain ⟨a7, c7, rfl⟩ := hp7.row.shape
    have hfin : Box (QNext w bw F { D.stepD with ws := D.ws ++ [(n, padS t.data.toList)] } (w7.setCell ⟨bw, 1, none⟩ (.slice a7 (M + 1) c7))) := ⟨by
      have e := hM.out
      subst e
      exact q_written h.out hn (by rw [data_len]; exact ht) hcd.out hzd.out hbd.out hsd.out hpd.out hF1.out hF2.out Bwk hp7.row hp7.chg hp7.place⟩
    have hb7 : Blk w7 bw _ _ := hp7.chg.blk ((Bwk.block bw hbd.out.lt).trans hbd.out) (fun hk => hpd.out.apart hbd.out (by decide) hk)
    have c7' : w7.cell? ⟨bw, 1, none⟩ = some (.slice pa M pc) := hb7.cell 1
    have f7 := hb7.free 1
    refine hK _ _ True.intro ?_
    clear hK K hb7 hp7 hnb Bwk
    simp only [Act.put, List.setIfInBounds_toArray, List.set_cons_succ, List.set_cons_zero]
    refine go_calms [16, 17] 1 rfl (by kernel_rfl) (by kernel_rfl) (by kernel_rfl) True.intro ?_
    simp [nth]
    repeat (go_big_quiet_step (first | exact fun _ => rfl | rfl))
    refine wpQuiet_nil ?_
    refine go_forced 18 (by kernel_rfl) (goOp_wp 18 rfl rfl (fun K hK => ?_))
    go_simp
    refine hK _ _ True.intro ?_
    clear hK K
    refine go_done (by kernel_rfl) ?_
    go_wp2_with fail
    go_ret
    exact ⟨rfl, hfin.out⟩
  · skip
    refine wp_make (.tmp 33) (.tmp 33) 84 rfl wd.heap.size 5 i5 (.int .u8 0) 1 Tryz.underlying84 hG.out.1 hG.out.2.1 hG.out.2.2.1 .i64 .i64 _ _ m rfl rfl rfl rfl (by rw [hG.out.2.2.2]; omega) (by unfold maxLen; omega) (Nat.le_refl _) ?_
    intro wm hown hgr
    have hconv := zeros_conv wm _ _ _ hown
    have Bwm : Below wd.heap.size wd wm := ⟨hgr.os, hgr.tape, hgr.output, hgr.size, fun k hk => hgr.block k hk (by simp)⟩
    refine hK _ _ True.intro ?_
    clear hK K hown hgr
    simp only [Act.put, List.setIfInBounds_toArray, List.set_cons_succ, List.set_cons_zero]
    refine go_fork 4 11 (by kernel_rfl) (goOp_wp 4 rfl rfl (fun K hK => ?_)) (goOp_wp 11 rfl rfl (fun K hK => ?_))
    · skip
      have k1wm : Blk wm bw _ _ := (Bwm.block bw hbd.out.lt).trans hbd.out
      have c1wm : wm.cell? ⟨bw, 1, none⟩ = some (.slice pa M pc) := k1wm.cell 1
      go_simp
      refine hK _ _ True.intro ?_
      clear hK K c1wm k1wm
      refine go_forced 11 (by kernel_rfl) (goOp_wp 11 rfl rfl (fun K hK => ?_))
      go_simp
      refine hK _ _ True.intro ?_
      clear hK K hconv
      refine go_calm 12 (by kernel_rfl) rfl (by kernel_rfl) (by kernel_rfl) True.intro (yields (v := .string (bt (padS t.data.toList))) rfl (fun w' hw' => by go_simp; rw [hpz.out, if_neg (by rw [bt_size, List.length_replicate]; omega)])) ?_
      simp only [Act.put, List.setIfInBounds_toArray, List.set_cons_succ, List.set_cons_zero]
      refine go_calm 13 (by kernel_rfl) rfl (by kernel_rfl) (by kernel_rfl) True.intro (yields (v := .agg #[.int .i64 (n : Int), .string (bt (padS t.data.toList))]) rfl (fun w' hw' => by go_simp)) ?_
      simp only [Act.put, List.setIfInBounds_toArray, List.set_cons_succ, List.set_cons_zero]
      refine go_forced 14 (by kernel_rfl) (goOp_wp 14 rfl rfl (fun K hK => ?_))
      have hnb := Blk.new wm [.int .i64 (n : Int), .string (bt (padS t.data.toList))] 102
      obtain ⟨wk, hwk⟩ : ∃ wk, wm.alloc (.cells #[.int .i64 (n : Int), .string (bt (padS t.data.toList))] 102) = wk := ⟨_, rfl⟩
      have Bwk0 : Below wm.heap.size wm wk := hwk ▸ (Below.refl _ _).alloc (Nat.le_refl _) _
      have Bwk : Below wd.heap.size wd wk := Bwm.trans (Bwk0.mono Bwm.size)
      rw [hwk] at hnb
      go_simp
      refine hK _ _ True.intro ?_
      clear hK K hwk Bwk0
      refine go_forced 15 (by kernel_rfl) (goOp_wp 15 rfl rfl (fun K hK => ?_))
      refine wp_pushR (.tmp 28) (.tmp 38) 94 102 rfl iV (.agg #[.int .i64 0, .string ⟨#[]⟩]) 2 24 Tryz.underlying94 hH.out.1 hH.out.2.1 hH.out.2.2.1 hH.out.2.2.2 rfl (by omega) (.slice pa M pc) M (wcs D.ws) rfl (hpd.out.chg (Chg.of_below Bwk) (fun k hk => by have := hpd.out.lt k hk; omega)) ⟨wm.heap.size, 0, none⟩ 1 1 [.int .i64 (n : Int), .string (bt (padS t.data.toList))] rfl rfl (fun j u hu => by rw [Addr.add_mid]; rw [← hu, Nat.zero_add]; exact hnb.cell j) (fun u hu => by rcases (show u = _ ∨ u = _ by simpa using hu) with rfl | rfl <;> rfl) (by unfold maxLen; omega) (by omega) ?_
      intro v7 w7 hp7
      obtain ⟨a7, c7, rfl⟩ := hp7.row.shape
      have hfin : Box (QNext w bw F { D.stepD with ws := D.ws ++ [(n, padS t.data.toList)] } (w7.setCell ⟨bw, 1, none⟩ (.slice a7 (M + 1) c7))) := ⟨by
        have e := hM.out
        subst e
        exact q_written h.out hn (by rw [data_len]; exact ht) hcd.out hzd.out hbd.out hsd.out hpd.out hF1.out hF2.out Bwk hp7.row hp7.chg hp7.place⟩
      have hb7 : Blk w7 bw _ _ := hp7.chg.blk ((Bwk.block bw hbd.out.lt).trans hbd.out) (fun hk => hpd.out.apart hbd.out (by decide) hk)
      have c7' : w7.cell? ⟨bw, 1, none⟩ = some (.slice pa M pc) := hb7.cell 1
      have f7 := hb7.free 1
      refine hK _ _ True.intro ?_
      clear hK K hb7 hp7 hnb Bwk
      simp only [Act.put, List.setIfInBounds_toArray, List.set_cons_succ, List.set_cons_zero]
      refine go_calms [16, 17] 1 rfl (by kernel_rfl) (by kernel_rfl) (by kernel_rfl) True.intro ?_
      simp [nth]
      repeat (go_big_quiet_step (first | exact fun _ => rfl | rfl))
      refine wpQuiet_nil ?_
      refine go_forced 18 (by kernel_rfl) (goOp_wp 18 rfl rfl (fun K hK => ?_))
      go_simp
      refine hK _ _ True.intro ?_
      clear hK K
      refine go_done (by kernel_rfl) ?_
      go_wp2_with fail
      go_ret
      exact ⟨rfl, hfin.out⟩
    · skip
      go_simp
      refine hK _ _ True.intro ?_
      clear hK K hconv
      refine go_calm 12 (by kernel_rfl) rfl (by kernel_rfl) (by kernel_rfl) True.intro (yields (v := .string (bt (padS t.data.toList))) rfl (fun w' hw' => by go_simp; rw [hpz.out, if_neg (by rw [bt_size, List.length_replicate]; omega)])) ?_
      simp only [Act.put, List.setIfInBounds_toArray, List.set_cons_succ, List.set_cons_zero]
      refine go_calm 13 (by kernel_rfl) rfl (by kernel_rfl) (by kernel_rfl) True.intro (yields (v := .agg #[.int .i64 (n : Int), .string (bt (padS t.data.toList))]) rfl (fun w' hw' => by go_simp)) ?_
      simp only [Act.put, List.setIfInBounds_toArray, List.set_cons_succ, List.set_cons_zero]
      refine go_fork 4 14 (by kernel_rfl) (goOp_wp 4 rfl rfl (fun K hK => ?_)) (goOp_wp 14 rfl rfl (fun K hK => ?_))
      · skip
        have k1wm : Blk wm bw _ _ := (Bwm.block bw hbd.out.lt).trans hbd.out
        have c1wm : wm.cell? ⟨bw, 1, none⟩ = some (.slice pa M pc) := k1wm.cell 1
        go_simp
        refine hK _ _ True.intro ?_
        clear hK K c1wm k1wm
        refine go_forced 14 (by kernel_rfl) (goOp_wp 14 rfl rfl (fun K hK => ?_))
        have hnb := Blk.new wm [.int .i64 (n : Int), .string (bt (padS t.data.toList))] 102
        obtain ⟨wk, hwk⟩ : ∃ wk, wm.alloc (.cells #[.int .i64 (n : Int), .string (bt (padS t.data.toList))] 102) = wk := ⟨_, rfl⟩
        have Bwk0 : Below wm.heap.size wm wk := hwk ▸ (Below.refl _ _).alloc (Nat.le_refl _) _
        have Bwk : Below wd.heap.size wd wk := Bwm.trans (Bwk0.mono Bwm.size)
        rw [hwk] at hnb
        go_simp
        refine hK _ _ True.intro ?_
        clear hK K hwk Bwk0
        refine go_forced 15 (by kernel_rfl) (goOp_wp 15 rfl rfl (fun K hK => ?_))
        refine wp_pushR (.tmp 28) (.tmp 38) 94 102 rfl iV (.agg #[.int .i64 0, .string ⟨#[]⟩]) 2 24 Tryz.underlying94 hH.out.1 hH.out.2.1 hH.out.2.2.1 hH.out.2.2.2 rfl (by omega) (.slice pa M pc) M (wcs D.ws) rfl (hpd.out.chg (Chg.of_below Bwk) (fun k hk => by have := hpd.out.lt k hk; omega)) ⟨wm.heap.size, 0, none⟩ 1 1 [.int .i64 (n : Int), .string (bt (padS t.data.toList))] rfl rfl (fun j u hu => by rw [Addr.add_mid]; rw [← hu, Nat.zero_add]; exact hnb.cell j) (fun u hu => by rcases (show u = _ ∨ u = _ by simpa using hu) with rfl | rfl <;> rfl) (by unfold maxLen; omega) (by omega) ?_
        intro v7 w7 hp7
        obtain ⟨a7, c7, rfl⟩ := hp7.row.shape
        have hfin : Box (QNext w bw F { D.stepD with ws := D.ws ++ [(n, padS t.data.toList)] } (w7.setCell ⟨bw, 1, none⟩ (.slice a7 (M + 1) c7))) := ⟨by
          have e := hM.out
          subst e
          exact q_written h.out hn (by rw [data_len]; exact ht) hcd.out hzd.out hbd.out hsd.out hpd.out hF1.out hF2.out Bwk hp7.row hp7.chg hp7.place⟩
        have hb7 : Blk w7 bw _ _ := hp7.chg.blk ((Bwk.block bw hbd.out.lt).trans hbd.out) (fun hk => hpd.out.apart hbd.out (by decide) hk)
        have c7' : w7.cell? ⟨bw, 1, none⟩ = some (.slice pa M pc) := hb7.cell 1
        have f7 := hb7.free 1
        refine hK _ _ True.intro ?_
        clear hK K hb7 hp7 hnb Bwk
        simp only [Act.put, List.setIfInBounds_toArray, List.set_cons_succ, List.set_cons_zero]
        refine go_calms [16, 17] 1 rfl (by kernel_rfl) (by kernel_rfl) (by kernel_rfl) True.intro ?_
        simp [nth]
        repeat (go_big_quiet_step (first | exact fun _ => rfl | rfl))
        refine wpQuiet_nil ?_
        refine go_forced 18 (by kernel_rfl) (goOp_wp 18 rfl rfl (fun K hK => ?_))
        go_simp
        refine hK _ _ True.intro ?_
        clear hK K
        refine go_done (by kernel_rfl) ?_
        go_wp2_with fail
        go_ret
        exact ⟨rfl, hfin.out⟩
      · skip
        have hnb := Blk.new wm [.int .i64 (n : Int), .string (bt (padS t.data.toList))] 102
        obtain ⟨wk, hwk⟩ : ∃ wk, wm.alloc (.cells #[.int .i64 (n : Int), .string (bt (padS t.data.toList))] 102) = wk := ⟨_, rfl⟩
        have Bwk0 : Below wm.heap.size wm wk := hwk ▸ (Below.refl _ _).alloc (Nat.le_refl _) _
        have Bwk : Below wd.heap.size wd wk := Bwm.trans (Bwk0.mono Bwm.size)
        rw [hwk] at hnb
        go_simp
        refine hK _ _ True.intro ?_
        clear hK K hwk Bwk0
        refine go_forced 4 (by kernel_rfl) (goOp_wp 4 rfl rfl (fun K hK => ?_))
        have k1wk : Blk wk bw _ _ := (Bwk.block bw hbd.out.lt).trans hbd.out
        have c1wk : wk.cell? ⟨bw, 1, none⟩ = some (.slice pa M pc) := k1wk.cell 1
        go_simp
        refine hK _ _ True.intro ?_
        clear hK K c1wk k1wk
        refine go_forced 15 (by kernel_rfl) (goOp_wp 15 rfl rfl (fun K hK => ?_))
        refine wp_pushR (.tmp 28) (.tmp 38) 94 102 rfl iV (.agg #[.int .i64 0, .string ⟨#[]⟩]) 2 24 Tryz.underlying94 hH.out.1 hH.out.2.1 hH.out.2.2.1 hH.out.2.2.2 rfl (by omega) (.slice pa M pc) M (wcs D.ws) rfl (hpd.out.chg (Chg.of_below Bwk) (fun k hk => by have := hpd.out.lt k hk; omega)) ⟨wm.heap.size, 0, none⟩ 1 1 [.int .i64 (n : Int), .string (bt (padS t.data.toList))] rfl rfl (fun j u hu => by rw [Addr.add_mid]; rw [← hu, Nat.zero_add]; exact hnb.cell j) (fun u hu => by rcases (show u = _ ∨ u = _ by simpa using hu) with rfl | rfl <;> rfl) (by unfold maxLen; omega) (by omega) ?_
        intro v7 w7 hp7
        obtain ⟨a7, c7, rfl⟩ := hp7.row.shape
        have hfin : Box (QNext w bw F { D.stepD with ws := D.ws ++ [(n, padS t.data.toList)] } (w7.setCell ⟨bw, 1, none⟩ (.slice a7 (M + 1) c7))) := ⟨by
          have e := hM.out
          subst e
          exact q_written h.out hn (by rw [data_len]; exact ht) hcd.out hzd.out hbd.out hsd.out hpd.out hF1.out hF2.out Bwk hp7.row hp7.chg hp7.place⟩
        have hb7 : Blk w7 bw _ _ := hp7.chg.blk ((Bwk.block bw hbd.out.lt).trans hbd.out) (fun hk => hpd.out.apart hbd.out (by decide) hk)
        have c7' : w7.cell? ⟨bw, 1, none⟩ = some (.slice pa M pc) := hb7.cell 1
        have f7 := hb7.free 1
        refine hK _ _ True.intro ?_
        clear hK K hb7 hp7 hnb Bwk
        simp only [Act.put, List.setIfInBounds_toArray, List.set_cons_succ, List.set_cons_zero]
        refine go_calms [16, 17] 1 rfl (by kernel_rfl) (by kernel_rfl) (by kernel_rfl) True.intro ?_
        simp [nth]
        repeat (go_big_quiet_step (first | exact fun _ => rfl | rfl))
        refine wpQuiet_nil ?_
        refine go_forced 18 (by kernel_rfl) (goOp_wp 18 rfl rfl (fun K hK => ?_))
        go_simp
        refine hK _ _ True.intro ?_
        clear hK K
        refine go_done (by kernel_rfl) ?_
        go_wp2_with fail
        go_ret
        exact ⟨rfl, hfin.out⟩
end Go.Proofs.YtoaipjpbioaneaaGreat

namespace Go.Proofs.YtoaipjpbioaneaaGreat
open Go.RowKit

set_option maxHeartbeats 1600000 in
theorem qwrite_any (bw : Nat) (F : Nat → Prop) (D : Dev) (n : Int) (t : ByteArray) (w : World) (h : QAt w bw F D) (hk : D.taken ≤ 1000000) (hf : D.fall ≤ 9223372036854775807) (hws : D.ws.length ≤ 1000000) :
    Calls Tryz.prog 25 #[.pointer (some ⟨bw, 0, none⟩), .int .i64 n, .string t] w fun e w' => e = .returned (.int .i64 (D.writeE n t.data.toList)) ∧ QNext w bw F (D.write n t.data.toList) w' := by
  unfold Dev.writeE Dev.write
  by_cases hr : D.refused n = 0
  · simp only [hr, ne_eq, not_true_eq_false, if_false]
    by_cases ht : 64 < t.data.toList.length
    · simp only [ht, if_true]
      rw [data_len] at ht
      have hIn := qin_any bw F D n w h
      rw [hr] at hIn
      replace hIn := Box.mk hIn
      go_enter Tryz.func25, Tryz.ntmps25
      go_wp2_with fail
      refine hIn.out.mono ?_
      rintro e w' ⟨rfl, rfl⟩
      clear hIn
      go_wp2_with fail
      go_ret
      exact ⟨rfl, QNext.same h⟩
    · simp only [ht, if_false]
      rw [data_len] at ht
      cases hg : D.goes
      · simp only [Bool.false_eq_true, if_false]
        have hIn := qin_any bw F D n w h
        rw [hr] at hIn
        replace hIn := Box.mk hIn
        have hSt := qstep_any bw F D w h hk hf
        rw [hg] at hSt
        replace hSt := Box.mk hSt
        clear hg hr
        go_enter Tryz.func25, Tryz.ntmps25
        go_wp2_with fail
        refine hIn.out.mono ?_
        rintro e w' ⟨rfl, rfl⟩
        clear hIn
        go_wp2_with fail
        refine hSt.out.mono ?_
        rintro e w2 ⟨rfl, hq, hc, hz⟩
        simp only [Bool.false_eq_true, if_false]
        clear hSt
        go_wp2_with fail
        go_ret
        exact ⟨rfl, hq.wide (fun _ hk => .inl hk) (fun k hk => by rcases hk with hk | hk; exact hq.lt k hk; exact hk.2), hc.mono (fun i _ hi => by rw [hi]; exact h.fd)⟩
      · simp only [if_true]
        obtain ⟨h1, k, rfl, h2⟩ := refused_zero hr
        exact qwrite_fit bw F D k t w h hr h2 (by omega) hg hk hf hws
  · simp only [ne_eq, hr, not_false_eq_true, if_true]
    have hIn := Box.mk (qin_any bw F D n w h)
    generalize D.refused n = e at *
    have hz : (e == 0) = false := by rw [beq_eq_false_iff_ne]; exact hr
    go_enter Tryz.func25, Tryz.ntmps25
    go_wp2_with fail
    refine hIn.out.mono ?_
    rintro e w' ⟨rfl, rfl⟩
    clear hIn
    go_wp2_with fail
    go_ret
    exact ⟨rfl, QNext.same h⟩
end Go.Proofs.YtoaipjpbioaneaaGreat

namespace Go.Proofs.YtoaipjpbioaneaaGreat
open Go.RowKit

def noT : ByteArray := ⟨#[]⟩
theorem zero_conv (w : World) (g : Nat) (base : Nat) (h : w.ownsRow base 5 1 (.slice (some ⟨g, 0, none⟩) 64 64) 64 (madeCells (Value.int .u8 0).cells (64 * 1)).toList) :
    (convert 84 9 (.slice (some ⟨g, 0, none⟩) 64 64)).run Tryz.prog w = .ok (.string z64) w := by
  have e : (madeCells (Value.int .u8 0).cells (64 * 1)).toList = (List.replicate 64 (0 : UInt8)).map yc := toList_madeCells_one _ _
  rw [e] at h
  have hx : w.rangeAt g 0 ((List.replicate 64 (0 : UInt8)).map yc) := fun j v hv => by
    have := World.ownsRow.cells (g := g) h rfl j v hv
    rw [Addr.add_mid] at this
    exact this
  have := bytes_conv w g 0 64 (List.replicate 64 (0 : UInt8)) hx
  rw [List.length_replicate] at this
  exact this
theorem below_drew' (B : Nat) (w : World) : Below B w w.drew := ⟨rfl, rfl, rfl, Nat.le_refl _, fun _ _ => rfl⟩
def lp (n i : Nat) : List Value := List.replicate i (.string z64) ++ List.replicate (n - i) (.string noT)
theorem lp_zero (n : Nat) : lp n 0 = List.replicate n (.string noT) := by simp [lp]
theorem lp_full (n : Nat) : lp n n = strs (List.replicate n zeroS) := by
  simp [lp, strs]
  exact .inr rfl
theorem lp_set (n i : Nat) (h : i < n) : (lp n i).set i (.string z64) = lp n (i + 1) := by
  unfold lp
  rw [List.set_append_right _ _ (by simp), List.length_replicate, Nat.sub_self, show n - i = (n - (i + 1)) + 1 by omega, List.replicate_succ, List.set_cons_zero, List.replicate_succ', List.append_assoc]; rfl
/-- In New's loop. -/
structure NL (w0 : World) (g bw n i : Nat) (w : World) : Prop where
  row : Row w 9 1 (.slice (some ⟨g, 0, none⟩) n n) n (lp n i)
  blk : Blk w bw [.slice (some ⟨g, 0, none⟩) n n, .slice none 0 0, .int .i64 0, .int .i64 0, .bool false] 96
  k : Below w0.heap.size w0 w
  g : w0.heap.size ≤ g ∧ w0.heap.size ≤ bw
theorem NL.keep {w0 w w' : World} {g bw n i : Nat} (h : NL w0 g bw n i w) (hb : Below w.heap.size w w') : NL w0 g bw n i w' :=
  ⟨h.row.chg (Chg.of_below hb) (fun k hk => by have := h.row.lt k hk; omega), (hb.block bw h.blk.lt).trans h.blk, h.k.trans (hb.mono h.k.size), h.g⟩
theorem NL.step {w0 w : World} {g bw n i : Nat} (h : NL w0 g bw n i w) (hi : i < n) : NL w0 g bw n (i + 1) (w.setCell ⟨g, i, none⟩ (.string z64)) := by
  have hx := (World.ownsRow.stored h.row i (.string z64)).1
  rw [lp_set n i hi] at hx
  refine ⟨hx, ?_, h.k.trans ((Below.refl _ w).setCell (p := ⟨g, _, none⟩) h.g.1 _), h.g⟩
  exact (chg1 w g i (.string z64)).blk h.blk (fun e => h.row.apart h.blk (by decide) (by rw [e]; rfl))
/-- What New leaves. -/
def QNew (w : World) (n : Nat) (e : Ending) (w' : World) : Prop :=
  ∃ bw, e = .returned (.tuple #[.pointer (some ⟨bw, 0, none⟩), .int .i64 0]) ∧ QAt w' bw (fun k => w.heap.size ≤ k ∧ k < w'.heap.size) (Dev.new n) ∧ Below w.heap.size w w'
theorem qnew_done {w0 w : World} {g bw n : Nat} (h : NL w0 g bw n n w) (hn : n ≤ 4096) : QNew w0 n (.returned (.tuple #[.pointer (some ⟨bw, 0, none⟩), .int .i64 0])) w := by
  have hr := h.row
  rw [lp_full] at hr
  refine ⟨bw, rfl, ⟨Dev.new_ok n hn, ⟨_, _, h.blk, ?_, Row.nil _ _ _, fun k hk => ?_, fun k hk => by cases hk⟩, ⟨h.g.2, h.blk.lt⟩, fun k hk => hk.2⟩, h.k⟩
  · have e : (Dev.new n).safe.length = n := by simp [Dev.new]
    rw [e]; exact hr
  · obtain rfl : g = k := by simpa [Value.ownBlock] using hk
    exact ⟨h.g.1, hr.lt g rfl⟩
theorem qnew_bad (n : Int) (w : World) (hn : n < 1 ∨ 4096 < n) :
    Calls Tryz.prog 20 #[.int .i64 n] w fun e w' => e = .returned (.tuple #[.pointer none, .int .i64 1]) ∧ w = w' := by
  by_cases h1 : n < 1
  · go_enter Tryz.func20, Tryz.ntmps20
    go_wp2_with fail
    go_returns
    exact ⟨rfl, rfl⟩
  · go_enter Tryz.func20, Tryz.ntmps20
    go_wp2_with fail
    go_returns
    exact ⟨rfl, rfl⟩
set_option linter.unusedSimpArgs false in
set_option maxRecDepth 100000 in
set_option maxHeartbeats 1600000 in
theorem qnew_fit (n : Nat) (w : World) (h1 : 1 ≤ n) (h2 : n ≤ 4096) :
    Calls Tryz.prog 20 #[.int .i64 (n : Int)] w (QNew w n) := by
  obtain ⟨iT, hiT, hzT, hsT, hbT⟩ := info_parts infoT
  have hH := Box.mk (And.intro hiT (And.intro hzT (And.intro hsT hbT)))
  obtain ⟨i5, hi5, hz5, hz51, hz52⟩ := info_parts info5'
  have hG := Box.mk (And.intro hi5 (And.intro hz5 (And.intro hz51 hz52)))
  clear hiT hzT hsT hbT hi5 hz5 hz51 hz52
  go_enter Tryz.func20, Tryz.ntmps20
  go_wp2_with (at_make; refine wpList_make_full _ rfl (.tmp 12) (.tmp 12) 89 rfl w.heap.size 9 iT (.string ⟨#[]⟩) 1 Tryz.underlying89 hH.out.1 hH.out.2.1 hH.out.2.2.1 .i64 .i64 _ _ n rfl rfl rfl rfl (by rw [hH.out.2.2.2]; omega) (by unfold maxLen; omega) (Nat.le_refl _) ?_; intro w1 hown hg; replace hown := Box.mk hown; replace hg := Box.mk hg)
  have hN0 : Box (NL w w.heap.size w1.heap.size n 0 (w1.alloc (.cells #[.slice (some ⟨w.heap.size, 0, none⟩) n n, .slice none 0 0, .int .i64 0, .int .i64 0, .bool false] 96))) := ⟨by
    have hB1 : Below w.heap.size w w1 := ⟨hg.out.os, hg.out.tape, hg.out.output, hg.out.size, fun k hk => hg.out.block k hk (by simp)⟩
    have hr : Row w1 9 1 (.slice (some ⟨w.heap.size, 0, none⟩) n n) n (lp n 0) := by
      have h0 := hown.out
      have e : (madeCells (Value.string ⟨#[]⟩).cells (n * 1)).toList = lp n 0 := by
        rw [lp_zero, Nat.mul_one]; exact toList_madeCells_one _ _
      rw [e] at h0
      obtain ⟨x1, x2⟩ := h0
      refine ⟨x1, x2.imp id ?_⟩
      rintro ⟨g, cap, cur, e1, e2, e3⟩
      exact ⟨g, cap, cur, e1, Nat.zero_le _, e3⟩
    have hs := hB1.size
    exact ⟨hr.chg (S := fun _ => False) ((Chg.refl _ _).alloc _) (fun _ _ h => h), Blk.new w1 _ _, hB1.alloc hs _, Nat.le_refl _, hs⟩⟩
  generalize w.heap.size = g at *
  generalize w1.heap.size = bw at *
  generalize w1.alloc _ = wz at *
  clear hown hg hH
  go_loopw [5] (fun s5 wr => ∃ i : Nat, i ≤ n ∧ s5 = .int .i64 i ∧ Box (NL w g bw n i wr)) (fun s5 _ => n - (intOf s5).toNat)
  case atStart => exact ⟨0, by omega, rfl, hN0⟩
  case round =>
    clear hN0
    obtain ⟨i, hi, rfl, hK⟩ := hrel
    by_cases hlt : i < n
    · go_wp2_with fail
      have c0 : wr.drew.cell? ⟨bw, 0, none⟩ = some (.slice (some ⟨g, 0, none⟩) n n) := hK.out.blk.cell 0
      have hKd : Box (NL w g bw n i wr.drew) := ⟨hK.out.keep (below_drew' _ wr)⟩
      refine region_go (C := fun w' => w'.cell? ⟨bw, 0, none⟩ = some (.slice (some ⟨g, 0, none⟩) n n)) rfl ?_
      generalize wr.drew = wd at c0 hKd ⊢
      clear hK
      refine go_calms [0, 1, 2, 3, 4] 4 rfl (by kernel_rfl) (by kernel_rfl) (by kernel_rfl) c0 ?_
      simp [nth]
      repeat (go_big_quiet_step (first | exact fun _ => rfl | rfl))
      refine quiet_any rfl (.slice (some ⟨g, 0, none⟩) n n) (fun w' hw' => by go_simp) ?_
      simp only [Act.put, List.setIfInBounds_toArray, List.set_cons_succ, List.set_cons_zero]
      repeat (go_big_quiet_step (first | exact fun _ => rfl | rfl))
      refine wpQuiet_nil ?_
      refine go_forced 5 (by kernel_rfl) (goOp_wp 5 rfl rfl (fun K hK => ?_))
      refine wp_make (.const (.int .i64 64)) (.const (.int .i64 64)) 84 rfl wd.heap.size 5 i5 (.int .u8 0) 1 Tryz.underlying84 hG.out.1 hG.out.2.1 hG.out.2.2.1 .i64 .i64 _ _ 64 rfl rfl rfl rfl (by rw [hG.out.2.2.2]; omega) (by unfold maxLen; omega) (Nat.le_refl _) ?_
      intro wm hown2 hgr
      have hconv := zero_conv wm _ _ hown2
      have hKm : Box (NL w g bw n i wm) := ⟨hKd.out.keep ⟨hgr.os, hgr.tape, hgr.output, hgr.size, fun k hk => hgr.block k hk (by simp)⟩⟩
      refine hK _ _ (hKm.out.blk.cell 0) ?_
      clear hK K hown2 hgr c0 hKd
      simp only [Act.put, List.setIfInBounds_toArray, List.set_cons_succ, List.set_cons_zero]
      refine go_forced 6 (by kernel_rfl) (goOp_wp 6 rfl rfl (fun K hK => ?_))
      go_simp
      refine hK _ _ (hKm.out.blk.cell 0) ?_
      clear hK K hconv
      refine go_calms [7] 1 rfl (by kernel_rfl) (by kernel_rfl) (by kernel_rfl) (hKm.out.blk.cell 0) ?_
      simp [nth]
      repeat (go_big_quiet_step (first | exact fun _ => rfl | rfl))
      refine wpQuiet_nil ?_
      have hKs := Box.mk (hKm.out.step hlt)
      have f1 := World.ownsRow.frozenAt hKm.out.row i
      have hce : ∃ u, wm.cell? ⟨g, i, none⟩ = some u ∧ (∃ b, u = .string b) := by
        have hl : i < (lp n i).length := by simp [lp]; omega
        refine ⟨_, hKm.out.row.cells i _ (List.getElem?_eq_getElem hl), ?_⟩
        have : (lp n i)[i] ∈ lp n i := List.getElem_mem hl
        unfold lp at this
        rcases List.mem_append.1 this with h | h
        · exact ⟨_, List.eq_of_mem_replicate h⟩
        · exact ⟨_, List.eq_of_mem_replicate h⟩
      obtain ⟨_, hce, b, rfl⟩ := hce
      refine go_forced 8 (by kernel_rfl) (goOp_wp 8 rfl rfl (fun K hK => ?_))
      go_simp
      refine hK _ _ (hKs.out.blk.cell 0) ?_
      clear hK K hce f1 hKm
      generalize wm.setCell _ _ = w6 at hKs ⊢
      refine go_done (by kernel_rfl) ?_
      go_wp2_with fail
      exact ⟨⟨i + 1, by omega, by go_num, hKs⟩, by simp [intOf]; omega⟩
    · obtain rfl : i = n := by omega
      go_wp2_with fail
      go_returns
      exact qnew_done hK.out h2
end Go.Proofs.YtoaipjpbioaneaaGreat
