/- Walks of a content's bytes, of a header's bytes. -/
import Derived.Test.YtoaipjpbioaneaaGreatCeA
import Derived.Test.YtoaipjpbioaneaaGreatCeC
import Derived.Test.YtoaipjpbioaneaaGreatPkC
namespace Go.Proofs.YtoaipjpbioaneaaGreat
open Go.RowKit Go.Maps

theorem p256_2 : (256 : Nat) ^ 2 = 65536 := by decide
theorem p256_4 : (256 : Nat) ^ 4 = 4294967296 := by decide
theorem p256_8 : (256 : Nat) ^ 8 = 18446744073709551616 := by decide
theorem txL_eq (s : ByteArray) : textL s = txL s.data.toList := by unfold textL txL; rw [data_len]
/-- A writer that the call has made: what it has laid; nothing from ahead of the call has changed. -/
structure WH (w0 : World) (b : Nat) (l : Bs) (w : World) : Prop where
  out : ∃ v, WAt w b 112 v l false ∧ ∀ k, v.ownBlock = some k → w0.heap.size ≤ k
  k : Below w0.heap.size w0 w
  b : w0.heap.size ≤ b
theorem WH.next {w0 w w' : World} {b : Nat} {l l' : Bs} {v : Value} (h : WH w0 b l w) (hv : WAt w b 112 v l false) (hb : ∀ k, v.ownBlock = some k → w0.heap.size ≤ k) (hN : WNext w b 112 v l' false w') : WH w0 b l' w' := by
  obtain ⟨v', h1, h2, h3⟩ := hN.out
  refine ⟨⟨v', h1, fun k hk => ?_⟩, h.k.trans (h2.below h.k.size ?_), h.b⟩
  · rcases h3 k hk with h4 | h4
    · exact hb k h4
    · exact Nat.le_trans h.k.size h4
  · rintro i (rfl | hi)
    · exact h.b
    · exact hb i hi
/-- .. beside a row of texts. -/
structure WR (w0 : World) (b : Nat) (l : Bs) (vn : Value) (n : Nat) (xs : List Value) (w : World) : Prop where
  wh : WH w0 b l w
  row : Row w 9 1 vn n xs
theorem WR.next {w0 w w' : World} {b n : Nat} {l l' : Bs} {v vn : Value} {xs : List Value} (h : WR w0 b l vn n xs w) (hv : WAt w b 112 v l false) (hb : ∀ k, v.ownBlock = some k → w0.heap.size ≤ k) (hN : WNext w b 112 v l' false w') : WR w0 b l' vn n xs w' := by
  refine ⟨h.wh.next hv hb hN, ?_⟩
  obtain ⟨v', _, h2, _⟩ := hN.out
  refine h.row.chg h2 fun k hk => ?_
  rintro (rfl | hi)
  · exact h.row.apart hv.blk (by decide) hk
  · exact h.row.unlike (e := 9) (f := 5) hv.own (by decide) k hk hi
theorem WH.row {w0 w : World} {b : Nat} {l : Bs} (h : WH w0 b l w) : WR w0 b l (.slice none 0 0) 0 [] w := ⟨h, Row.nil _ _ _⟩
theorem fits_nat (n k : Nat) (h : n < 256 ^ k) : fits (n : Int) k = true := by
  unfold fits
  have hp : (2 : Nat) ^ (8 * k) = 256 ^ k := by rw [Nat.pow_mul]
  have h1 : n / 2 ^ (8 * k) = 0 := Nat.div_eq_of_lt (by rw [hp]; exact h)
  have h2 : (n : Int) / 2 ^ (8 * k) = ((n / 2 ^ (8 * k) : Nat) : Int) := by rw [Int.natCast_ediv]; simp
  rw [h2, h1]; simp
theorem WR.two {w0 w : World} {b n : Nat} {l : Bs} {vn : Value} {xs : List Value} (h : WR w0 b l vn n xs w) (m : Nat) (hm : m < 65536) (hl : l.length ≤ 35184372088832) :
    Calls Tryz.prog 56 #[.pointer (some ⟨b, 0, none⟩), .int .i64 (m : Int)] w fun e w' => e = .returned (.tuple #[]) ∧ Box (WR w0 b (l ++ beN m 2) vn n xs w') := by
  obtain ⟨v, hv, hb⟩ := h.wh.out
  have hf : fits (m : Int) 2 = true := fits_nat m 2 (by rw [p256_2]; omega)
  have h1 := two_any b v l false m w hv hl
  rw [hf] at h1
  exact h1.mono fun e w' ⟨a, c⟩ => ⟨a, ⟨h.next hv hb (by simpa [lays] using c)⟩⟩
theorem WR.four {w0 w : World} {b n : Nat} {l : Bs} {vn : Value} {xs : List Value} (h : WR w0 b l vn n xs w) (m : Nat) (hm : m < 4294967296) (hl : l.length ≤ 35184372088832) :
    Calls Tryz.prog 61 #[.pointer (some ⟨b, 0, none⟩), .int .i64 (m : Int)] w fun e w' => e = .returned (.tuple #[]) ∧ Box (WR w0 b (l ++ beN m 4) vn n xs w') := by
  obtain ⟨v, hv, hb⟩ := h.wh.out
  have hf : fits (m : Int) 4 = true := fits_nat m 4 (by rw [p256_4]; omega)
  have h1 := four_any b v l false m w hv hl
  rw [hf] at h1
  exact h1.mono fun e w' ⟨a, c⟩ => ⟨a, ⟨h.next hv hb (by simpa [lays] using c)⟩⟩
theorem WR.eight {w0 w : World} {b n : Nat} {l : Bs} {vn : Value} {xs : List Value} (h : WR w0 b l vn n xs w) (m : Nat) (hm : m < 9223372036854775808) (hl : l.length ≤ 35184372088832) :
    Calls Tryz.prog 60 #[.pointer (some ⟨b, 0, none⟩), .int .i64 (m : Int)] w fun e w' => e = .returned (.tuple #[]) ∧ Box (WR w0 b (l ++ beN m 8) vn n xs w') := by
  obtain ⟨v, hv, hb⟩ := h.wh.out
  have hf : fits (m : Int) 8 = true := fits_nat m 8 (by rw [p256_8]; omega)
  have h1 := eight_any b v l false m w hv hl
  rw [hf] at h1
  exact h1.mono fun e w' ⟨a, c⟩ => ⟨a, ⟨h.next hv hb (by simpa [lays] using c)⟩⟩
theorem WR.text {w0 w : World} {b n : Nat} {l : Bs} {vn : Value} {xs : List Value} (h : WR w0 b l vn n xs w) (s : ByteArray) (hs : s.size ≤ 65535) (hl : l.length ≤ 35184372088000) :
    Calls Tryz.prog 58 #[.pointer (some ⟨b, 0, none⟩), .string s] w fun e w' => e = .returned (.tuple #[]) ∧ Box (WR w0 b (l ++ txL s.data.toList) vn n xs w') := by
  obtain ⟨v, hv, hb⟩ := h.wh.out
  have h1 := text_any b v l false s w hv hl
  have hd : decide (s.size ≤ 65535) = true := by simpa using hs
  rw [hd, txL_eq] at h1
  exact h1.mono fun e w' ⟨a, c⟩ => ⟨a, ⟨h.next hv hb (by simpa [lays] using c)⟩⟩
theorem WR.bytes {w0 w : World} {b n : Nat} {l : Bs} {vn : Value} {xs : List Value} (h : WR w0 b l vn n xs w) :
    Calls Tryz.prog 59 #[.pointer (some ⟨b, 0, none⟩)] w fun e w' => e = .returned (.tuple #[.string (btx l), .int .i64 0]) ∧ w = w' := by
  obtain ⟨v, hv, hb⟩ := h.wh.out
  exact bytes_any b v l false w hv
theorem WH.new (w : World) : WH w w.heap.size [] (w.alloc (.cells #[.slice none 0 0, .bool false] 112)) :=
  ⟨⟨.slice none 0 0, ⟨Blk.new w _ _, Own.nil _⟩, fun k hk => by cases hk⟩, (Below.refl _ _).alloc (Nat.le_refl _) _, Nat.le_refl _⟩

set_option maxHeartbeats 1600000 in
set_option maxRecDepth 100000 in
theorem headerBytes_any (n len : Nat) (w : World) (hn : n < 9223372036854775808) (hl : len < 4294967296) :
    Calls Tryz.prog 34 #[.int .i64 (n : Int), .int .i64 (len : Int)] w fun e w' => e = .returned (.tuple #[.string (btx (hdr n len)), .int .i64 0]) ∧ Box (Below w.heap.size w w') := by
  have h0 := Box.mk (WH.new w).row
  obtain ⟨w1, hw1⟩ : ∃ w1, w.alloc (.cells #[.slice none 0 0, .bool false] 112) = w1 := ⟨_, rfl⟩
  obtain ⟨b, hb⟩ : ∃ b, w.heap.size = b := ⟨_, rfl⟩
  rw [hw1, hb] at h0
  have h1 := Box.mk (h0.out.eight n hn (by simp))
  replace hn := Box.mk hn
  replace hl := Box.mk hl
  go_enter Tryz.func34, Tryz.ntmps34
  go_wp2_with fail
  refine h1.out.mono ?_
  rintro e w2 ⟨rfl, h2⟩
  have h3 := Box.mk (h2.out.four len hl.out (by simp [beN_length]))
  clear h0 h1
  go_wp2_with fail
  refine h3.out.mono ?_
  rintro e w3 ⟨rfl, h4⟩
  have h5 := Box.mk (h4.out.eight n hn.out (by simp [beN_length]))
  clear h2 h3
  go_wp2_with fail
  refine h5.out.mono ?_
  rintro e w4 ⟨rfl, h6⟩
  have h7 := Box.mk h6.out.bytes
  have hB : Box (Below w.heap.size w w4) := ⟨h6.out.wh.k⟩
  have e1 : [] ++ beN n 8 ++ beN len 4 ++ beN n 8 = hdr n len := by unfold hdr; simp
  rw [e1] at h7
  clear h4 h5 h6 e1 hw1 hb
  go_wp2_with fail
  refine h7.out.mono ?_
  rintro e w' ⟨rfl, rfl⟩
  clear h7
  go_wp2_with fail
  go_returns
  exact ⟨rfl, hB⟩

theorem ent_field (s : ByteArray) (w : World) : (Instr.field 79 (.agg #[.string s]) 0).run Tryz.prog w = .ok (.string s) w := by kernel_rfl
theorem pairL_len (c : Ct) (h : c.ok) (i : Nat) : ((c.take i).flatMap pairL).length ≤ 4200000 := by
  have h1 := (bytesC_le h).2
  rw [bytesC, List.length_append, beN_length] at h1
  have h2 : c.flatMap pairL = (c.take i).flatMap pairL ++ (c.drop i).flatMap pairL := by rw [← List.flatMap_append, List.take_append_drop]
  rw [h2, List.length_append] at h1
  omega
theorem flat_snoc (c : Ct) (i : Nat) (hi : i < c.length) : (c.take (i + 1)).flatMap pairL = (c.take i).flatMap pairL ++ txL (c[i]).1 ++ txL (c[i]).2 := by
  rw [List.take_succ_eq_append_getElem hi, List.flatMap_append]
  simp [pairL]
set_option maxHeartbeats 3200000 in
set_option maxRecDepth 100000 in
theorem cbytes_any (bm : Nat) (c : Ct) (w : World) (h : MapAt w bm c) (hc : c.ok) :
    Calls Tryz.prog 32 #[.map (some bm)] w fun e w' => e = .returned (.string (btx (bytesC c))) ∧ Box (Below w.heap.size w w') := by
  have hbm := h.lt
  have hcn := hc.n
  have h0 := Box.mk (WH.new w).row
  have hM1 : Box (MapAt (w.alloc (.cells #[.slice none 0 0, .bool false] 112)) bm c) := ⟨h.chg ((Chg.refl (fun _ => False) _).alloc _) (fun h => h)⟩
  obtain ⟨w1, hw1⟩ : ∃ w1, w.alloc (.cells #[.slice none 0 0, .bool false] 112) = w1 := ⟨_, rfl⟩
  obtain ⟨b, hb⟩ : ∃ b, w.heap.size = b := ⟨_, rfl⟩
  rw [hw1, hb] at h0
  rw [hw1] at hM1
  have h1 := Box.mk (h0.out.two c.length (by omega) (by simp))
  replace h := Box.mk h
  replace hc := Box.mk hc
  go_enter Tryz.func32, Tryz.ntmps32
  go_wp2_with (at_len; refine wpList_mlen rfl _ rfl bm c rfl hM1.out ?_)
  refine h1.out.mono ?_
  rintro e w2 ⟨rfl, h2⟩
  have hM2 : Box (MapAt w2 bm c) := ⟨h.out.below h2.out.wh.k hbm⟩
  have h3 := Box.mk (names_any bm c w2 hM2.out hc.out.rise (by omega))
  clear h0 h1 hM1
  go_wp2_with fail
  refine h3.out.mono ?_
  rintro e w3 ⟨vn, rfl, hrow, hfr, hb3⟩
  have h4 : Box (WR w b ([] ++ beN c.length 2) vn c.length (c.map nameV) w3) := ⟨⟨⟨by
      obtain ⟨v, hv, hk⟩ := h2.out.wh.out
      exact ⟨v, hv.chg (Chg.of_below hb3) (by have := hv.blk.lt; omega) (fun k hk2 => by have := hv.own.lt k hk2; omega), hk⟩, h2.out.wh.k.trans (hb3.mono h2.out.wh.k.size), h2.out.wh.b⟩, hrow⟩⟩
  obtain ⟨va, vc, rfl⟩ := hrow.shape
  clear hfr hb3 h2 h3 hM2 hrow hw1
  go_wp2_with fail
  go_loopw [14] (fun s14 wr => ∃ i : Nat, i ≤ c.length ∧ s14 = .int .i64 i ∧ Box (WR w b (beN c.length 2 ++ (c.take i).flatMap pairL) (.slice va c.length vc) c.length (c.map nameV) wr)) (fun s14 _ => c.length - (intOf s14).toNat)
  case atStart => exact ⟨0, by omega, rfl, ⟨by simpa using h4.out⟩⟩
  case round =>
    clear h4
    obtain ⟨i, hi, rfl, h5⟩ := hrel
    by_cases hlt : i < c.length
    · obtain ⟨g, vc2, heq, hg⟩ := h5.out.row.some (by omega)
      simp only [Value.slice.injEq] at heq
      obtain ⟨rfl, _, rfl⟩ := heq
      obtain ⟨p, hp⟩ : ∃ p, c[i] = p := ⟨_, rfl⟩
      have hpm : p ∈ c := hp ▸ List.getElem_mem hlt
      have c0 : wr.cell? ⟨g, i, none⟩ = some (.string (btx p.1)) := h5.out.row.cells i _ (by rw [List.getElem?_map, List.getElem?_eq_getElem hlt, hp]; rfl)
      have hpe := hc.out.each p hpm
      have hll := pairL_len c hc.out i
      have h6 := Box.mk (h5.out.text (btx p.1) (by rw [mk_size]; omega) (by rw [List.length_append, beN_length]; omega))
      replace hp := Box.mk hp
      clear hg
      go_wp2_with fail
      refine h6.out.mono ?_
      rintro e w6 ⟨rfl, h7⟩
      have hM6 : Box (MapAt w6 bm c) := ⟨h.out.below h7.out.wh.k hbm⟩
      have hget : Box (btx ((getC c (btx p.1).data.toList).getD []) = btx p.2) := ⟨by
        show btx ((getC c p.1).getD []) = _
        rw [getC_of_mem hc.out.rise hpm]; rfl⟩
      have h8 := Box.mk (h7.out.text (btx p.2) (by rw [mk_size]; omega) (by rw [List.length_append, List.length_append, beN_length]; show _ + (txL p.1).length ≤ _; rw [txL_length]; omega))
      have hps : (btx p.1).size ≤ maxLen := by rw [mk_size]; unfold maxLen; omega
      replace hps := Box.mk hps
      have hfd := ent_field (btx p.2)
      clear h6 h5 c0
      go_wp2_with (at_lookup; refine wpList_look rfl _ _ rfl bm c rfl hM6.out (btx p.1) rfl hps.out ?_; rw [hget.out])
      refine h8.out.mono ?_
      rintro e w8 ⟨rfl, h9⟩
      have h10 : Box (WR w b (beN c.length 2 ++ (c.take (i + 1)).flatMap pairL) (.slice (some ⟨g, 0, none⟩) c.length vc) c.length (c.map nameV) w8) := ⟨by
        rw [flat_snoc c i hlt, hp.out, ← List.append_assoc, ← List.append_assoc]; exact h9.out⟩
      clear h7 h8 h9 hget hps hM6 hpe hll hp hpm hfd
      go_wp2_with fail
      exact ⟨⟨i + 1, by omega, by go_num, h10⟩, by simp [intOf]; omega⟩
    · obtain rfl : i = c.length := by omega
      rw [List.take_of_length_le (Nat.le_refl _)] at h5
      have h6 := Box.mk h5.out.bytes
      have hB : Box (Below w.heap.size w wr) := ⟨h5.out.wh.k⟩
      clear h5
      go_wp2_with fail
      refine h6.out.mono ?_
      rintro e w' ⟨rfl, rfl⟩
      clear h6
      go_wp2_with fail
      go_returns
      exact ⟨rfl, hB⟩
end Go.Proofs.YtoaipjpbioaneaaGreat
