/- Walk of the law FlashTears. -/
import Derived.Test.YtcccokdbgmejdaaFlK
namespace Go.Proofs.Ytcccokdbgmejdaa
open Go.RowKit

/-- A copy of a device beside others. -/
def CopyV (B : Nat) (X : Nat → Prop) (w : World) (D : Dev) (e : Ending) (w' : World) : Prop :=
  ∃ bc, e = .returned (.pointer (some ⟨bc, 0, none⟩)) ∧ Box (DV B X w' bc D) ∧ Box (Below w.heap.size w w') ∧ Box (w.heap.size ≤ bc)
theorem DV.copy {B : Nat} {X : Nat → Prop} {w : World} {bd : Nat} {D : Dev} (h : DV B X w bd D) (hws : D.ws.length ≤ 1000000) : Calls Try.prog 17 #[.pointer (some ⟨bd, 0, none⟩)] w (CopyV B X w D) := by
  obtain ⟨F, hF, h1⟩ := h.out
  refine (copy_any bd F D w hF hws).mono fun e w' ⟨bc, a, b, c⟩ => ⟨bc, a, ⟨⟨_, b, fun k hk => ⟨Nat.le_trans h.b hk.1, fun hx => by have := h.x k hx; omega⟩⟩, fun k hk => Nat.lt_of_lt_of_le (h.x k hk) c.size, Nat.le_trans h.b c.size⟩, ⟨c⟩, ⟨b.fd.1⟩⟩

def bt (l : List UInt8) : ByteArray := ⟨l.toArray⟩
theorem bt_list (l : List UInt8) : (bt l).data.toList = l := rfl
theorem bt_of (t : ByteArray) : bt t.data.toList = t := by unfold bt; rw [Array.toArray_toList]
theorem bt_app (a b : List UInt8) : bt (a ++ b) = bt a ++ bt b := by
  apply ByteArray.ext
  rw [ByteArray.data_append]
  simp [bt]
theorem bt_size (l : List UInt8) : (bt l).size = l.length := rfl
theorem bt_cut (l : List UInt8) (i j : Nat) : (bt l).extract i j = bt ((l.drop i).take (j - i)) := by
  apply ByteArray.ext
  rw [ByteArray.data_extract]
  apply Array.ext'
  rw [Array.toList_extract, List.extract_eq_take_drop]; rfl
def z64 : ByteArray := bt (List.replicate 64 0)
theorem z64_size : z64.size = 64 := rfl
theorem pad_bt (t : ByteArray) : bt (padS t.data.toList) = t ++ z64.extract t.size 64 := by
  unfold padS z64
  rw [bt_app, bt_of, bt_cut, data_len, List.drop_replicate, List.take_replicate, Nat.min_self]
theorem tear_bt (k : Nat) (a b : List UInt8) (hb : b.length = 64) : bt (tear k a b) = (bt a).extract 0 k ++ (bt b).extract k 64 := by
  unfold tear
  rw [bt_app, bt_cut, bt_cut, List.drop_zero, Nat.sub_zero, List.take_of_length_le (show (b.drop k).length ≤ 64 - k by rw [List.length_drop, hb]; exact Nat.le_refl _)]

def S3 (o : List UInt8) : List Sec := [zeroS, padS o, zeroS]
def t1 (o : List UInt8) : Dev := ⟨[zeroS, zeroS, zeroS], [(1, padS o)], 1, 0, false⟩
def t2 (o : List UInt8) : Dev := ⟨S3 o, [], 2, 0, false⟩
def t3 (o m : List UInt8) : Dev := ⟨S3 o, [(1, padS m)], 3, 0, false⟩
theorem t1_e (o : List UInt8) (h : o.length ≤ 64) : (Dev.new 3).writeE 1 o = 0 ∧ (Dev.new 3).write 1 o = t1 o := by
  unfold Dev.writeE Dev.write
  have hr : (Dev.new 3).refused 1 = 0 := by decide +kernel
  have hg : (Dev.new 3).goes = true := rfl
  rw [hr, hg, if_neg (by simp), if_neg (by omega), if_pos rfl, if_neg (by simp), if_neg (by omega), if_pos rfl]
  exact ⟨rfl, rfl⟩
theorem t2_e (o : List UInt8) : (t1 o).barrierE = 0 ∧ (t1 o).barrier = t2 o := ⟨rfl, rfl⟩
theorem t3_e (o m : List UInt8) (h : m.length ≤ 64) : (t2 o).writeE 1 m = 0 ∧ (t2 o).write 1 m = t3 o m := by
  unfold Dev.writeE Dev.write
  have hr : (t2 o).refused 1 = 0 := rfl
  have hg : (t2 o).goes = true := rfl
  rw [hr, hg, if_neg (by simp), if_neg (by omega), if_pos rfl, if_neg (by simp), if_neg (by omega), if_pos rfl]
  exact ⟨rfl, rfl⟩
theorem t3_r (o m : List UInt8) : readR (t3 o m) 1 = .tuple #[.string (bt (padS m)), .int .i64 0] := rfl
theorem t4_r (o m : List UInt8) (keep : Int) (k : Nat) (hk : keepAt [keep] 0 = k) : readR ((t3 o m).crash [keep]) 1 = .tuple #[.string (bt (tear k (padS m) (padS o))), .int .i64 0] := by
  have e : ((t3 o m).crash [keep]).safe = [zeroS, tear k (padS m) (padS o), zeroS] := by rw [← hk]; rfl
  unfold readR
  have hr : ((t3 o m).crash [keep]).refused 1 = 0 := by
    unfold Dev.refused
    rw [e]; rfl
  unfold Dev.read
  rw [hr, if_neg (by simp)]
  have e2 : ((t3 o m).crash [keep]).seen = [zeroS, tear k (padS m) (padS o), zeroS] := by rw [← e]; rfl
  rw [e2]; rfl
theorem info5' : (Try.prog.info? 5).map (fun i => (i.zero, i.size, i.bytes)) = some (some (.int .u8 0), 1, 1) := by kernel_rfl
theorem zero_conv (w : World) (g : Nat) (base : Nat) (h : w.ownsRow base 5 1 (.slice (some ⟨g, 0, none⟩) 64 64) 64 (madeCells (Value.int .u8 0).cells (64 * 1)).toList) :
    (convert 49 9 (.slice (some ⟨g, 0, none⟩) 64 64)).run Try.prog w = .ok (.string z64) w := by
  have e : (madeCells (Value.int .u8 0).cells (64 * 1)).toList = (List.replicate 64 (0 : UInt8)).map yc := toList_madeCells_one _ _
  rw [e] at h
  have hx : w.rangeAt g 0 ((List.replicate 64 (0 : UInt8)).map yc) := fun j v hv => by
    have := World.ownsRow.cells (g := g) h rfl j v hv
    rw [Addr.add_mid] at this
    exact this
  have := bytes_conv w g 0 64 (List.replicate 64 (0 : UInt8)) hx
  rw [List.length_replicate] at this
  exact this
set_option maxHeartbeats 3200000 in
set_option maxRecDepth 100000 in
theorem tears_cut (old now : ByteArray) (keep : Int) (k : Nat) (w : World) (ho : old.size ≤ maxLen) (hn : now.size ≤ maxLen) (hkr : -9223372036854775808 ≤ keep ∧ keep ≤ 9223372036854775807) (hk : keepAt [keep] 0 = k) (hk64 : k ≤ 64)
    (hc : (keep < 0 ∧ k = 0) ∨ keep = (k : Int) ∨ (64 < keep ∧ k = 64)) :
    Calls Try.prog 5 #[.string old, .string now, .int .i64 keep] w fun e w' => e = .returned (.bool true) ∧ Below w.heap.size w w' := by
  unfold maxLen at ho hn
  have hK := keeps_any w
  obtain ⟨p, hp⟩ : ∃ p, min old.size 64 = p := ⟨_, rfl⟩
  obtain ⟨q, hq⟩ : ∃ q, min now.size 64 = q := ⟨_, rfl⟩
  have hp1 : p ≤ old.size ∧ p ≤ 64 := by omega
  have hq1 : q ≤ now.size ∧ q ≤ 64 := by omega
  replace hp := Box.mk hp
  replace hq := Box.mk hq
  replace hk := Box.mk hk
  replace hc := Box.mk hc
  go_enter Try.func5, Try.ntmps5
  go_wp2_with fail
  refine hK.mono ?_
  rintro e w1 ⟨rfl, hb1⟩
  replace hb1 := Box.mk hb1
  clear hK
  go_wp2_with fail
  refine wp_region_quiet_lit (by kernel_rfl) (by kernel_rfl) ?_
  repeat (go_big_quiet_step (first | exact fun _ => rfl | rfl))
  refine wpQuiet_nil ?_
  rintro w' ⟨r, rfl⟩
  have hbr : Box (Below w.heap.size w (w1.drewN r)) := ⟨⟨hb1.out.os, hb1.out.tape, hb1.out.output, hb1.out.size, hb1.out.block⟩⟩
  have hip : (if (64 : Int) < (old.size : Int) then 64 else (old.size : Int)) = (p : Int) := by have := hp.out; split <;> omega
  have hiq : (if (64 : Int) < (now.size : Int) then 64 else (now.size : Int)) = (q : Int) := by have := hq.out; split <;> omega
  rw [hip, hiq, Int.toNat_natCast, Int.toNat_natCast]
  have hos : (old.extract 0 p).size ≤ 64 := by rw [ByteArray.size_extract]; omega
  have hms : (now.extract 0 q).size ≤ 64 := by rw [ByteArray.size_extract]; omega
  generalize w1.drewN r = w2 at hbr ⊢
  generalize old.extract 0 p = o at hos ⊢
  generalize now.extract 0 q = m at hms ⊢
  clear hip hiq hb1 hp hq hp1 hq1
  obtain ⟨e1, d1⟩ := t1_e o.data.toList (by rw [data_len]; exact hos)
  obtain ⟨e3, d3⟩ := t3_e o.data.toList m.data.toList (by rw [data_len]; exact hms)
  have hNw := Box.mk (new_v w.heap.size (fun _ => False) 3 w2 (by omega) (by omega) hbr.out.size (fun _ h => h.elim))
  replace e1 := Box.mk e1
  replace d1 := Box.mk d1
  replace e3 := Box.mk e3
  replace d3 := Box.mk d3
  go_wp2_with fail
  refine hNw.out.mono ?_
  rintro e w3 ⟨bd, rfl, hD3, hB3⟩
  have hb3 := Box.mk (hbr.out.trans (hB3.out.mono hbr.out.size))
  have hW1 := hD3.out.write 1 o (by decide) (by decide) (by decide)
  rw [e1.out, d1.out] at hW1
  replace hW1 := Box.mk hW1
  clear hNw hbr hB3 e1 d1
  go_wp2_with fail
  refine hW1.out.mono ?_
  rintro e w4 ⟨rfl, hD4, hO4⟩
  have hb4 := Box.mk (hb3.out.trans (hO4.out.below hD3.out.b))
  have hW2 := hD4.out.barrier (show 1 ≤ 1000000 by omega) (Nat.zero_le _)
  rw [(t2_e _).1, (t2_e _).2] at hW2
  replace hW2 := Box.mk hW2
  clear hW1 hD3 hO4 hb3
  go_wp2_with fail
  refine hW2.out.mono ?_
  rintro e w5 ⟨rfl, hD5, hO5⟩
  have hb5 := Box.mk (hb4.out.trans (hO5.out.below hD4.out.b))
  have hW3 := hD5.out.write 1 m (show 2 ≤ 1000000 by omega) (Nat.zero_le _) (Nat.zero_le _)
  rw [e3.out, d3.out] at hW3
  replace hW3 := Box.mk hW3
  clear hW2 hD4 hO5 hb4 e3 d3
  go_wp2_with fail
  refine hW3.out.mono ?_
  rintro e w6 ⟨rfl, hD6, hO6⟩
  have hb6 := Box.mk (hb5.out.trans (hO6.out.below hD5.out.b))
  have hCp := Box.mk (hD6.out.copy (show 1 ≤ 1000000 by omega))
  clear hW3 hD5 hO6 hb5
  go_wp2_with fail
  refine hCp.out.mono ?_
  rintro e w7 ⟨bc, rfl, hC7, hB7, _⟩
  have hb7 := Box.mk (hb6.out.trans (hB7.out.mono hb6.out.size))
  have hD7 := Box.mk (hD6.out.keep hB7.out)
  have hR7 := hC7.out.read 1
  rw [t3_r] at hR7
  replace hR7 := Box.mk hR7
  clear hCp hD6 hB7 hb6 hC7
  go_wp2_with fail
  refine hR7.out.mono ?_
  rintro e w' ⟨rfl, rfl⟩
  clear hR7
  have hbi : Below w7.heap.size w7 (w7.alloc (.cells #[.int .i64 keep] 3)) := (Below.refl _ _).alloc (Nat.le_refl _) _
  have hD8 := hD7.out.aside hbi (fun k => k = w7.heap.size) (fun k hk => .inr (by simp; omega))
  have hB8 := Box.mk (hb7.out.trans (hbi.mono hb7.out.size))
  have hI8 : Ints (w7.alloc (.cells #[.int .i64 keep] 3)) (fun k => k < w.heap.size ∨ k = w7.heap.size) (.slice (some ⟨w7.heap.size, 0, none⟩) 1 1) [keep] :=
    ⟨⟨_, 1, rfl, fun _ => ⟨w7.heap.size, 0, rfl, by simp, .inr rfl, fun i hi => by
      obtain rfl : i = 0 := by simpa using hi
      exact (Blk.new w7 [.int .i64 keep] 3).cell 0⟩⟩⟩
  have hW8 := hD8.crash (.slice (some ⟨w7.heap.size, 0, none⟩) 1 1) [keep] (show 0 < 3 by omega) (show 1 ≤ 1000000 by omega) hI8 (by simp)
  replace hW8 := Box.mk hW8
  replace hD8 := Box.mk hD8
  clear hI8 hbi hb7 hD7
  go_wp2_with fail
  refine hW8.out.mono ?_
  rintro e w9 ⟨rfl, hD9, hO9⟩
  have hB9 := Box.mk (hB8.out.trans (hO9.out.below hD8.out.b))
  have hR9 := hD9.out.read 1
  rw [t4_r _ _ _ _ hk.out] at hR9
  replace hR9 := Box.mk hR9
  clear hW8 hD8 hO9 hB8 hD9
  go_wp2_with fail
  refine hR9.out.mono ?_
  rintro e w' ⟨rfl, rfl⟩
  clear hR9
  obtain ⟨i5, hi5, hz5, hz51, hz52⟩ := info_parts info5'
  have hH := Box.mk (And.intro hi5 (And.intro hz5 (And.intro hz51 hz52)))
  clear hi5 hz5 hz51 hz52
  rw [tear_bt k _ _ (padS_length _ (by rw [data_len]; exact hos)), pad_bt, pad_bt]
  have z0 := z64_size
  have hWs : (m ++ z64.extract m.size 64).size = 64 := by rw [ByteArray.size_append, ByteArray.size_extract, z0]; omega
  have hBs : (o ++ z64.extract o.size 64).size = 64 := by rw [ByteArray.size_append, ByteArray.size_extract, z0]; omega
  obtain ⟨Wm, hWm⟩ : ∃ Wm, m ++ z64.extract m.size 64 = Wm := ⟨_, rfl⟩
  obtain ⟨Bo, hBo⟩ : ∃ Bo, o ++ z64.extract o.size 64 = Bo := ⟨_, rfl⟩
  rw [hWm] at hWs ⊢
  rw [hBo] at hBs ⊢
  rcases hc.out with ⟨hc1, hc2⟩ | hc1 | ⟨hc1, hc2⟩
  · subst hc2
    clear hc hk
    go_wp2_with (at_make; refine wpList_make_full _ rfl (.const (.int .i64 64)) (.const (.int .i64 64)) 49 rfl w9.heap.size 5 i5 (.int .u8 0) 1 Try.underlying49 hH.out.1 hH.out.2.1 hH.out.2.2.1 .i64 .i64 _ _ 64 rfl rfl rfl rfl (by rw [hH.out.2.2.2]; omega) (by unfold maxLen; omega) (Nat.le_refl _) ?_; intro w10 hown hg; have hconv := zero_conv w10 _ _ hown; have hB10 := Box.mk (hB9.out.trans ((show Below w9.heap.size w9 w10 from ⟨hg.os, hg.tape, hg.output, hg.size, fun k hk => hg.block k hk (by simp)⟩).mono hB9.out.size)); clear hown hg)
    clear hconv
    refine wp_region_quiet_lit (by kernel_rfl) (by kernel_rfl) ?_
    repeat (go_big_quiet_step (first | exact fun _ => rfl | rfl))
    refine wpQuiet_nil ?_
    rintro w' ⟨r2, rfl⟩
    have hfin : Box (Below w.heap.size w (w10.drewN r2)) := ⟨⟨hB10.out.os, hB10.out.tape, hB10.out.output, hB10.out.size, hB10.out.block⟩⟩
    go_wp2_with fail
    go_ret
    exact ⟨rfl, hfin.out⟩
  · subst hc1
    clear hc hk
    go_wp2_with (at_make; refine wpList_make_full _ rfl (.const (.int .i64 64)) (.const (.int .i64 64)) 49 rfl w9.heap.size 5 i5 (.int .u8 0) 1 Try.underlying49 hH.out.1 hH.out.2.1 hH.out.2.2.1 .i64 .i64 _ _ 64 rfl rfl rfl rfl (by rw [hH.out.2.2.2]; omega) (by unfold maxLen; omega) (Nat.le_refl _) ?_; intro w10 hown hg; have hconv := zero_conv w10 _ _ hown; have hB10 := Box.mk (hB9.out.trans ((show Below w9.heap.size w9 w10 from ⟨hg.os, hg.tape, hg.output, hg.size, fun k hk => hg.block k hk (by simp)⟩).mono hB9.out.size)); clear hown hg)
    clear hconv
    refine wp_region_quiet_lit (by kernel_rfl) (by kernel_rfl) ?_
    repeat (go_big_quiet_step (first | exact fun _ => rfl | rfl))
    refine wpQuiet_nil ?_
    rintro w' ⟨r2, rfl⟩
    have hfin : Box (Below w.heap.size w (w10.drewN r2)) := ⟨⟨hB10.out.os, hB10.out.tape, hB10.out.output, hB10.out.size, hB10.out.block⟩⟩
    go_wp2_with fail
    go_ret
    exact ⟨rfl, hfin.out⟩
  · subst hc2
    clear hc hk
    go_wp2_with (at_make; refine wpList_make_full _ rfl (.const (.int .i64 64)) (.const (.int .i64 64)) 49 rfl w9.heap.size 5 i5 (.int .u8 0) 1 Try.underlying49 hH.out.1 hH.out.2.1 hH.out.2.2.1 .i64 .i64 _ _ 64 rfl rfl rfl rfl (by rw [hH.out.2.2.2]; omega) (by unfold maxLen; omega) (Nat.le_refl _) ?_; intro w10 hown hg; have hconv := zero_conv w10 _ _ hown; have hB10 := Box.mk (hB9.out.trans ((show Below w9.heap.size w9 w10 from ⟨hg.os, hg.tape, hg.output, hg.size, fun k hk => hg.block k hk (by simp)⟩).mono hB9.out.size)); clear hown hg)
    clear hconv
    refine wp_region_quiet_lit (by kernel_rfl) (by kernel_rfl) ?_
    repeat (go_big_quiet_step (first | exact fun _ => rfl | rfl))
    refine wpQuiet_nil ?_
    rintro w' ⟨r2, rfl⟩
    have hfin : Box (Below w.heap.size w (w10.drewN r2)) := ⟨⟨hB10.out.os, hB10.out.tape, hB10.out.output, hB10.out.size, hB10.out.block⟩⟩
    go_wp2_with fail
    go_ret
    exact ⟨rfl, hfin.out⟩
theorem tears_any (old now : ByteArray) (keep : Int) (w : World) (ho : old.size ≤ maxLen) (hn : now.size ≤ maxLen) (hkr : -9223372036854775808 ≤ keep ∧ keep ≤ 9223372036854775807) :
    Calls Try.prog 5 #[.string old, .string now, .int .i64 keep] w fun e w' => e = .returned (.bool true) ∧ Below w.heap.size w w' := by
  have e : keepAt [keep] 0 = (min (max keep 0) 64).toNat := by unfold keepAt; rw [if_neg (by simp)]; rfl
  refine tears_cut old now keep _ w ho hn hkr e (by omega) ?_
  omega
end Go.Proofs.Ytcccokdbgmejdaa
