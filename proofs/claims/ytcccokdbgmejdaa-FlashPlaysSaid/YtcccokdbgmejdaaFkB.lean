/- Walk of the law FlashKeeps. -/
import Derived.Test.YtcccokdbgmejdaaFkA
namespace Go.Proofs.Ytcccokdbgmejdaa
open Go.RowKit

/-- A copy that is only read: its blocks lie from z1 on, before z2. -/
structure SafeAt (z1 z2 : Nat) (w : World) (bc : Nat) (D : Dev) : Prop where
  out : ∃ F, DAt w bc F D ∧ ∀ k, F k → z1 ≤ k ∧ k < z2
theorem SafeAt.chg {S : Nat → Prop} {z1 z2 : Nat} {w w' : World} {bc : Nat} {D : Dev} (h : SafeAt z1 z2 w bc D) (hc : Chg S w w') (hS : ∀ k, z1 ≤ k → k < z2 → ¬ S k) : SafeAt z1 z2 w' bc D := by
  obtain ⟨F, hF, h1⟩ := h.out
  exact ⟨⟨F, hF.chg hc fun k hk => hS k (h1 k hk).1 (h1 k hk).2, h1⟩⟩
theorem SafeAt.read {z1 z2 : Nat} {w : World} {bc : Nat} {D : Dev} (h : SafeAt z1 z2 w bc D) (n : Int) : Calls Try.prog 19 #[.pointer (some ⟨bc, 0, none⟩), .int .i64 n] w fun e w' => e = .returned (readR D n) ∧ w = w' := by
  obtain ⟨F, hF, _⟩ := h.out
  exact read_any bc F D n w hF
/-- The sector that an operation's number names. -/
theorem num20 (n : Int) : ∃ q : Nat, q < 20 ∧ wrap64 ((IntKind.u64.wrap n).tmod 20) = (q : Int) := by
  have he : IntKind.u64.wrap n = n % 18446744073709551616 := rfl
  have h0 : 0 ≤ IntKind.u64.wrap n := by rw [he]; omega
  have h1 : (IntKind.u64.wrap n).tmod 20 = (IntKind.u64.wrap n) % 20 := Int.tmod_eq_emod_of_nonneg h0
  refine ⟨((IntKind.u64.wrap n) % 20).toNat, by omega, ?_⟩
  rw [h1]
  unfold wrap64
  omega
theorem num20_mod (n : Int) : wrap64 ((IntKind.u64.wrap n).tmod 20) = (IntKind.u64.wrap n).tmod 20 := by
  have he : IntKind.u64.wrap n = n % 18446744073709551616 := rfl
  have h0 : 0 ≤ IntKind.u64.wrap n := by rw [he]; omega
  have h1 : (IntKind.u64.wrap n).tmod 20 = (IntKind.u64.wrap n) % 20 := Int.tmod_eq_emod_of_nonneg h0
  rw [h1]
  unfold wrap64
  omega
def bt1 (l : List UInt8) : ByteArray := ⟨l.toArray⟩
theorem below_drewN (B : Nat) (w : World) (n : Nat) : Below B w (w.drewN n) := ⟨rfl, rfl, rfl, Nat.le_refl _, fun _ _ => rfl⟩
/-- In the first loop. -/
structure K1 (w0 : World) (bf bd : Nat) (fv : Value) (i : Nat) (D : Dev) (w : World) : Prop where
  fk : ∃ S, FK S i 100 D
  dv : DV w0.heap.size (fun k => k = bf) w bd D
  bx : Blk w bf [fv] 30
  k : Below w0.heap.size w0 w
theorem K1.keep {w0 w w' : World} {bf bd : Nat} {fv : Value} {i : Nat} {D : Dev} (h : K1 w0 bf bd fv i D w) (hb : Below w.heap.size w w') : K1 w0 bf bd fv i D w' :=
  ⟨h.fk, h.dv.keep hb, (hb.block bf h.bx.lt).trans h.bx, h.k.trans (hb.mono h.k.size)⟩
theorem K1.write {w0 w : World} {bf bd : Nat} {fv : Value} {i : Nat} {D : Dev} (h : K1 w0 bf bd fv i D w) (hi : i ≤ 1000) (q : Nat) (hq : q < 20) (t : ByteArray) (ht : t.size ≤ 64) :
    Calls Try.prog 14 #[.pointer (some ⟨bd, 0, none⟩), .int .i64 (q : Int), .string t] w fun e w' => e = .returned (.int .i64 0) ∧ Box (∃ D', K1 w0 bf bd fv (i + 1) D' w') := by
  obtain ⟨S, hS⟩ := h.fk
  obtain ⟨e1, e2, e3⟩ := hS.write q hq t.data.toList (by rw [data_len]; exact ht)
  have h1 := h.dv.write (q : Int) t (by have := hS.t; omega) (by rw [hS.f]; omega) (by have := hS.w; omega)
  rw [e1] at h1
  exact h1.mono fun e w' ⟨a, b, c⟩ => ⟨a, ⟨_, ⟨S, e3⟩, b.out, c.out.blk h.bx (fun h => h.2 rfl), h.k.trans (c.out.below h.dv.b)⟩⟩
/-- In the second loop. -/
structure K2 (w0 : World) (bf bd bc bt z1 z2 : Nat) (fv : Value) (S : List Sec) (i : Nat) (D Ds : Dev) (tch : List Bool) (w : World) : Prop where
  fk : FK S i 1000 D
  sn : Ds.seen = S ∧ Ds.off = false ∧ Ds.safe.length = 20
  dv : DV w0.heap.size (fun k => k = bf ∨ k = bt ∨ (z1 ≤ k ∧ k < z2)) w bd D
  bx : Blk w bf [fv] 30
  tb : Blk w bt (tch.map Value.bool) 4
  tl : tch.length = 20
  tt : ∀ n, tch.getD n false = false → ∀ x ∈ D.ws, x.1 ≠ n
  sf : SafeAt z1 z2 w bc Ds
  z : bf < z1 ∧ z2 ≤ bt ∧ w0.heap.size ≤ z1 ∧ z1 ≤ z2
  k : Below w0.heap.size w0 w
section
variable {w0 w w' : World} {bf bd bc bt z1 z2 : Nat} {fv : Value} {S : List Sec} {i : Nat} {D Ds : Dev} {tch : List Bool}
theorem K2.keep (h : K2 w0 bf bd bc bt z1 z2 fv S i D Ds tch w) (hb : Below w.heap.size w w') : K2 w0 bf bd bc bt z1 z2 fv S i D Ds tch w' :=
  ⟨h.fk, h.sn, h.dv.keep hb, (hb.block bf h.bx.lt).trans h.bx, (hb.block bt h.tb.lt).trans h.tb, h.tl, h.tt, by
    obtain ⟨F, hF, h1⟩ := h.sf.out
    exact ⟨⟨F, hF.below hb, h1⟩⟩, h.z, h.k.trans (hb.mono h.k.size)⟩
theorem K2.store (h : K2 w0 bf bd bc bt z1 z2 fv S i D Ds tch w) (q : Nat) : K2 w0 bf bd bc bt z1 z2 fv S i D Ds (tch.set q true) (w.setCell ⟨bt, q, none⟩ (.bool true)) := by
  have hc := chg1 w bt q (.bool true)
  have hz := h.z
  have hl := h.tb.lt
  refine ⟨h.fk, h.sn, h.dv.chg hc (fun k _ hk => .inr (.inl hk)), hc.blk h.bx (show ¬ bf = bt by omega), ?_, by rw [List.length_set]; exact h.tl, fun n hn x hx => h.tt n ?_ x hx, h.sf.chg hc (fun k h1 h2 (e : k = bt) => by omega), h.z, h.k.trans (hc.below h.k.size (fun j (hj : j = bt) => by omega))⟩
  · have := h.tb.setCell q (.bool true)
    rw [List.map_set]; exact this
  · rw [List.getD_eq_getElem?_getD] at hn ⊢
    by_cases hq : q = n
    · subst hq
      by_cases hlt : q < tch.length
      · rw [List.getElem?_set_self hlt] at hn; simp at hn
      · rw [List.getElem?_eq_none (by omega)]; rfl
    · rw [List.getElem?_set_ne hq] at hn; exact hn
theorem K2.others (h : K2 w0 bf bd bc bt z1 z2 fv S i D Ds tch w) {D' : Dev} {i' : Nat} (hf : FK S i' 1000 D') (hd : DV w0.heap.size (fun k => k = bf ∨ k = bt ∨ (z1 ≤ k ∧ k < z2)) w' bd D') (ho : Others w0.heap.size (fun k => k = bf ∨ k = bt ∨ (z1 ≤ k ∧ k < z2)) w w')
    (ht : ∀ n, tch.getD n false = false → ∀ x ∈ D'.ws, x.1 ≠ n) : K2 w0 bf bd bc bt z1 z2 fv S i' D' Ds tch w' :=
  ⟨hf, h.sn, hd, ho.blk h.bx (fun h => h.2 (.inl rfl)), ho.blk h.tb (fun h => h.2 (.inr (.inl rfl))), h.tl, ht, h.sf.chg ho (fun _ h1 h2 e => e.2 (.inr (.inr ⟨h1, h2⟩))), h.z, h.k.trans (ho.below h.dv.b)⟩
theorem K2.write (h : K2 w0 bf bd bc bt z1 z2 fv S i D Ds tch w) (hi : i ≤ 1000) (q : Nat) (hq : q < 20) (hqt : tch.getD q false = true) (t : ByteArray) (ht : t.size ≤ 64) :
    Calls Try.prog 14 #[.pointer (some ⟨bd, 0, none⟩), .int .i64 (q : Int), .string t] w fun e w' => e = .returned (.int .i64 0) ∧ Box (∃ D', K2 w0 bf bd bc bt z1 z2 fv S (i + 1) D' Ds tch w') := by
  obtain ⟨e1, e2, e3⟩ := h.fk.write q hq t.data.toList (by rw [data_len]; exact ht)
  have h1 := h.dv.write (q : Int) t (by have := h.fk.t; omega) (by rw [h.fk.f]; omega) (by have := h.fk.w; omega)
  rw [e1] at h1
  refine h1.mono fun e w' ⟨a, b, c⟩ => ⟨a, ⟨_, h.others e3 b.out c.out fun n hn x hx => ?_⟩⟩
  rw [e2] at hx
  rcases List.mem_append.1 hx with hx | hx
  · exact h.tt n hn x hx
  · obtain rfl : x = (q, padS t.data.toList) := by simpa using hx
    rintro rfl
    rw [hn] at hqt; cases hqt
theorem blk_of_full {w : World} {base g n : Nat} {e : TypeId} {xs : List Value} (h : w.ownsRow base e 1 (.slice (some ⟨g, 0, none⟩) n n) n xs) : Blk w g xs e := by
  obtain ⟨hl, ⟨h1, _⟩ | ⟨g1, cap, cur, h1, _, hg, _, _, hcs, ht⟩⟩ := h
  · cases h1
  · cases h1
    have hcl : cur.toList.length = cur.size := Array.length_toList
    rw [List.take_of_length_le (by omega)] at ht
    unfold Blk
    rw [hg, ← ht, Array.toArray_toList]
theorem K2.start {w3 w4 w5 : World} {Db : Dev} (hB : Below w0.heap.size w0 w3) (hfk : FK S 0 1000 Db) (hws : Db.ws = []) (hsn : Db.seen = S ∧ Db.off = false ∧ Db.safe.length = 20) (hD : DV w0.heap.size (fun k => k = bf) w3 bd Db) (hbx : Blk w3 bf [fv] 30)
    (hC : DAt w4 bc (fun k => w3.heap.size ≤ k ∧ k < w4.heap.size) Db) (hB4 : Below w3.heap.size w3 w4) (hown : w5.ownsRow w4.heap.size 4 1 (.slice (some ⟨w4.heap.size, 0, none⟩) 20 20) 20 (madeCells (Value.bool false).cells (20 * 1)).toList) (hg : w4.grownBy w5 none) :
    K2 w0 bf bd bc w4.heap.size w3.heap.size w4.heap.size fv S 0 Db Db (List.replicate 20 false) w5 := by
  have hB5 : Below w4.heap.size w4 w5 := ⟨hg.os, hg.tape, hg.output, hg.size, fun k hk => hg.block k hk (by simp)⟩
  have htb := blk_of_full hown
  rw [show (madeCells (Value.bool false).cells (20 * 1)).toList = (List.replicate 20 false).map Value.bool from by rw [List.map_replicate]; exact toList_madeCells_one _ _] at htb
  have hs3 := hB.size
  have hs4 := hB4.size
  have hx3 := hbx.lt
  have hB34 : Below w3.heap.size w3 w5 := hB4.trans (hB5.mono hs4)
  have h5 := htb.lt
  exact ⟨hfk, hsn, hD.aside hB34 _ (fun k hk => by
    rcases hk with hk | hk | hk
    · exact .inl hk
    · exact .inr (by omega)
    · exact .inr (by omega)), (hB34.block bf hx3).trans hbx, htb, by simp, (fun n _ x hx => by rw [hws] at hx; cases hx), ⟨⟨_, hC.below hB5, fun k hk => hk⟩⟩, ⟨hx3, Nat.le_refl _, hs3, hs4⟩, hB.trans (hB34.mono hs3)⟩
/-- Behind the crash. -/
structure K3 (w0 : World) (bf bd bc bt z1 z2 : Nat) (D Ds : Dev) (tch : List Bool) (w : World) : Prop where
  same : ∀ n, n < 20 → tch.getD n false = false → D.read n = Ds.read n
  ref : ∀ n : Nat, n < 20 → D.refused n = 0 ∧ Ds.refused n = 0
  ws : D.ws = [] ∧ D.off = false
  dv : DV w0.heap.size (fun k => k = bf ∨ k = bt ∨ (z1 ≤ k ∧ k < z2)) w bd D
  tb : Blk w bt (tch.map Value.bool) 4
  tl : tch.length = 20
  sf : SafeAt z1 z2 w bc Ds
  k : Below w0.heap.size w0 w
theorem K2.crash (h : K2 w0 bf bd bc bt z1 z2 fv S i D Ds tch w) (hi : i ≤ 1000) (keep : List Int) (hI : Ints w0 (fun k => k < w0.heap.size) fv keep) (hkl : keep.length ≤ 9223372036854775807) :
    Calls Try.prog 18 #[.pointer (some ⟨bd, 0, none⟩), .agg #[fv]] w fun e w' => e = .returned (.tuple #[]) ∧ Box (∃ D', K3 w0 bf bd bc bt z1 z2 D' Ds tch w') := by
  have hl : (D.crash keep).safe.length = 20 := by unfold Dev.crash settle; simp only [settleN_length]; rw [h.fk.s, h.fk.n]
  have hI2 := (hI.chg (Chg.of_below h.k) (fun k hk _ => by omega))
  have hI3 : Ints w (fun k => k < w0.heap.size ∨ (k = bf ∨ k = bt ∨ (z1 ≤ k ∧ k < z2))) fv keep := by
    obtain ⟨a, c, e, hc⟩ := hI2.out
    exact ⟨a, c, e, fun h0 => by
      obtain ⟨cb, co, e1, e2, e3, e4⟩ := hc h0
      exact ⟨cb, co, e1, e2, .inl e3, e4⟩⟩
  refine (h.dv.crash fv keep (by rw [h.fk.s, h.fk.n]; omega) (by have := h.fk.w; omega) hI3 hkl).mono fun e w' ⟨a, b, c⟩ => ⟨a, ⟨⟨D.crash keep, ?_⟩⟩⟩
  have hr1 : ∀ n : Nat, n < 20 → (D.crash keep).refused n = 0 := fun n hn => by
    unfold Dev.refused
    rw [if_neg (by simp [Dev.crash]), if_neg (by rw [hl]; omega)]
  have hr2 : ∀ n : Nat, n < 20 → Ds.refused n = 0 := fun n hn => by
    unfold Dev.refused
    rw [h.sn.2.1, if_neg (by simp), if_neg (by rw [h.sn.2.2]; omega)]
  refine ⟨fun n hn ht => ?_, fun n hn => ⟨hr1 n hn, hr2 n hn⟩, ⟨rfl, rfl⟩, b.out, c.out.blk h.tb (fun h => h.2 (.inr (.inl rfl))), h.tl, h.sf.chg c.out (fun _ h1 h2 e => e.2 (.inr (.inr ⟨h1, h2⟩))), h.k.trans (c.out.below h.dv.b)⟩
  unfold Dev.read
  rw [hr1 n hn, hr2 n hn, if_neg (by simp), if_neg (by simp)]
  rw [show (D.crash keep).seen = settle keep D.safe D.ws from rfl, h.sn.1, Int.toNat_natCast, h.fk.s]
  exact settleN_other keep S D.ws n (h.tt n ht) _
end
theorem infoB : (Try.prog.info? 4).map (fun i => (i.zero, i.size, i.bytes)) = some (some (.bool false), 1, 1) := by kernel_rfl
set_option maxHeartbeats 6400000 in
set_option maxRecDepth 100000 in
theorem keeps_law (a1 a2 : Option Addr) (L1 C1 L2 C2 : Nat) (fv : Value) (keep : List Int) (w : World) (h1 : OpsAt w a1 L1) (h2 : OpsAt w a2 L2) (hC1 : L1 ≤ C1 ∧ C1 ≤ maxLen) (hC2 : L2 ≤ C2 ∧ C2 ≤ maxLen) (hI : Ints w (fun k => k < w.heap.size) fv keep) (hkl : keep.length ≤ 9223372036854775807) :
    Calls Try.prog 4 #[.slice a1 L1 C1, .slice a2 L2 C2, .agg #[fv]] w fun e w' => e = .returned (.bool true) ∧ Below w.heap.size w w' := by
  unfold maxLen at hC1 hC2
  obtain ⟨M1, hM1⟩ : ∃ M, min L1 60 = M := ⟨_, rfl⟩
  obtain ⟨M2, hM2⟩ : ∃ M, min L2 60 = M := ⟨_, rfl⟩
  have hm1 : M1 ≤ L1 ∧ M1 ≤ 60 := by omega
  have hm2 : M2 ≤ L2 ∧ M2 ≤ 60 := by omega
  have hi1 : Box ((if (60 : Int) < (L1 : Int) then 60 else (L1 : Int)) = (M1 : Int)) := ⟨by split <;> omega⟩
  have hi2 : Box ((if (60 : Int) < (L2 : Int) then 60 else (L2 : Int)) = (M2 : Int)) := ⟨by split <;> omega⟩
  replace h1 := Box.mk (h1.less hm1.1)
  replace h2 := Box.mk (h2.less hm2.1)
  replace hI := Box.mk hI
  replace hkl := Box.mk hkl
  clear hM1 hM2
  obtain ⟨wb, hwb⟩ : ∃ wb, w.alloc (.cells #[fv] 30) = wb := ⟨_, rfl⟩
  have hnb := Blk.new w [fv] 30
  rw [hwb] at hnb
  have hb0 : Below w.heap.size w wb := hwb ▸ (Below.refl _ _).alloc (Nat.le_refl _) _
  obtain ⟨bf, hbf⟩ : ∃ bf, w.heap.size = bf := ⟨_, rfl⟩
  rw [hbf] at hnb
  have hK := keeps_any wb
  replace hnb := Box.mk hnb
  replace hb0 := Box.mk hb0
  go_enter Try.func4, Try.ntmps4
  go_wp2_with fail
  refine hK.mono ?_
  rintro e w1 ⟨rfl, hb1⟩
  have hb1w := Box.mk (hb0.out.trans (hb1.mono hb0.out.size))
  have hn1 : Box (Blk w1 bf [fv] 30) := ⟨(hb1.block bf hnb.out.lt).trans hnb.out⟩
  have hNw := Box.mk (new_v w.heap.size (fun k => k = bf) 20 w1 (by omega) (by omega) hb1w.out.size (fun k hk => by rw [hk]; exact hn1.out.lt))
  replace hbf := Box.mk hbf
  clear hK hb1 hwb hnb hb0
  go_wp2_with fail
  refine hNw.out.mono ?_
  rintro e w2 ⟨bd, rfl, hD2, hB2⟩
  have hK2 : Box (K1 w bf bd fv 0 (Dev.new 20) w2) := ⟨⟨_, rfl, rfl, Nat.le_refl _, Nat.zero_le _, rfl, rfl⟩, hD2.out, (hB2.out.block bf hn1.out.lt).trans hn1.out, hb1w.out.trans (hB2.out.mono hb1w.out.size)⟩
  generalize Dev.new 20 = D0 at hK2
  clear hNw hD2 hB2 hb1w hn1
  go_wp2_with (refine wpList_min rfl (.tmp 29) (.const (.int .i64 60)) 3 rfl (L1 : Int) 60 (M1 : Int) rfl rfl hi1.out ?_)
  go_loopw [33] (fun s33 wr => ∃ (i : Nat) (D : Dev), i ≤ M1 ∧ s33 = .int .i64 i ∧ Box (K1 w bf bd fv i D wr)) (fun s33 _ => M1 - (intOf s33).toNat)
  case atStart => exact ⟨0, D0, by omega, rfl, hK2⟩
  case round =>
    clear hK2
    obtain ⟨i, D, hi, rfl, hK⟩ := hrel
    by_cases hlt : i < M1
    · obtain ⟨cb, co, rfl, hcb, hcs⟩ := h1.out.out (by omega)
      obtain ⟨kk, n, s, v, l, d0, d1, d2, d3, hn, hs, hIv, _⟩ := hcs i hlt
      obtain ⟨va, vc, rfl, _⟩ := hIv.out
      generalize l.length = vl at *
      rw [← hK.out.k.cell (p := ⟨cb, _, none⟩) hcb] at d0 d1 d2 d3
      have hnew := Blk.new wr [.int .u8 (kk.toNat : Int), .int .i64 n, .string s, .slice va vl vc] 32
      obtain ⟨wn, hwn⟩ : ∃ wn, wr.alloc (.cells #[.int .u8 (kk.toNat : Int), .int .i64 n, .string s, .slice va vl vc] 32) = wn := ⟨_, rfl⟩
      have hKn := Box.mk (hK.out.keep (hwn ▸ (Below.refl _ _).alloc (Nat.le_refl _) _ : Below wr.heap.size wr wn))
      rw [hwn] at hnew
      obtain ⟨bo, hbo⟩ : ∃ bo, wr.heap.size = bo := ⟨_, rfl⟩
      rw [hbo] at hnew
      have e1 : wn.cell? ⟨bo, 1, none⟩ = some (.int .i64 n) := hnew.cell 1
      have e2 : wn.cell? ⟨bo, 2, none⟩ = some (.string s) := hnew.cell 2
      replace hnew := Box.mk hnew
      clear hcs hK
      go_wp2_with fail
      refine region_quiet_tail (C := fun w' => ∃ n, w' = wn.drewN n) 13 rfl (by kernel_rfl) ⟨1, rfl⟩ ?_
      simp only [List.take, List.drop]
      repeat (go_big_quiet_step (first | exact fun _ => rfl | rfl))
      refine wpQuiet_nil ?_
      rintro w5 ⟨r, rfl⟩
      obtain ⟨q, hq, hqe⟩ := num20 n
      obtain ⟨p, hp⟩ : ∃ p, min s.size 64 = p := ⟨_, rfl⟩
      have hip : (if (64 : Int) < (s.size : Int) then 64 else (s.size : Int)) = (p : Int) := by split <;> omega
      rw [hip, Int.toNat_natCast, hqe]
      have hts : (s.extract 0 p).size ≤ 64 := by rw [ByteArray.size_extract]; omega
      generalize s.extract 0 p = t at hts ⊢
      have hW := Box.mk ((hKn.out.keep (below_drewN _ wn r)).write (by omega) q hq t hts)
      generalize wn.drewN r = w5 at hW ⊢
      clear hip hqe hp hKn hnew e1 e2 d0 d1 d2 d3
      go_wp2_with fail
      refine hW.out.mono ?_
      rintro e w6 ⟨rfl, ⟨D6, hK6⟩⟩
      replace hK6 := Box.mk hK6
      clear hW
      go_wp2_with fail
      exact ⟨⟨i + 1, D6, by omega, by go_num, hK6⟩, by simp [intOf]; omega⟩
    · obtain ⟨S0, hS0⟩ := hK.out.fk
      obtain ⟨b1, b2, b3⟩ := hS0.barrier
      have hBr := hK.out.dv.barrier (by have := hS0.t; omega) (by rw [hS0.f]; omega)
      rw [b1] at hBr
      replace hBr := Box.mk hBr
      have hsn : D.barrier.seen = D.seen ∧ D.barrier.off = false ∧ D.barrier.safe.length = 20 := ⟨by unfold Dev.seen; rw [b2, b3.s]; rfl, b3.o, by rw [b3.s]; exact b3.n⟩
      generalize D.barrier = Db at hBr b2 b3 hsn
      generalize D.seen = S1 at b3 hsn
      have hfk := Box.mk (b3.wide (show i + 100 + 1 ≤ 1000 by omega))
      have hbw := Box.mk (And.intro b2 hsn)
      clear b1 b2 b3 hS0 hsn h1
      go_wp2_with fail
      refine hBr.out.mono ?_
      rintro e w3 ⟨rfl, hD3, hO3⟩
      have hbx3 := Box.mk (hO3.out.blk hK.out.bx (fun h => h.2 rfl))
      have hB3 := Box.mk (hK.out.k.trans (hO3.out.below hK.out.dv.b))
      have hPd := hD3.out.pending
      rw [hbw.out.1] at hPd
      replace hPd := Box.mk hPd
      clear hBr hO3 hK
      go_wp2_with fail
      refine hPd.out.mono ?_
      rintro e w' ⟨rfl, rfl⟩
      clear hPd
      have hCp : Box (Calls Try.prog 17 #[.pointer (some ⟨bd, 0, none⟩)] w3 (CopyD w3 Db)) := ⟨by
        obtain ⟨F, hF, _⟩ := hD3.out.out
        exact copy_any bd F Db w3 hF (by rw [hbw.out.1]; exact Nat.zero_le _)⟩
      go_wp2_with fail
      refine hCp.out.mono ?_
      rintro e w4 ⟨bc, rfl, hC4, hB4⟩
      obtain ⟨i4, hi4, hz4, hz41, hz42⟩ := info_parts infoB
      have hH := Box.mk (And.intro hi4 (And.intro hz4 (And.intro hz41 hz42)))
      replace hC4 := Box.mk hC4
      replace hB4 := Box.mk hB4
      clear hi4 hz4 hz41 hz42 hCp
      go_wp2_with (first
        | (at_make; refine wpList_make_full _ rfl (.const (.int .i64 20)) (.const (.int .i64 20)) 44 rfl w4.heap.size 4 i4 (.bool false) 1 Try.underlying44 hH.out.1 hH.out.2.1 hH.out.2.2.1 .i64 .i64 _ _ 20 rfl rfl rfl rfl (by rw [hH.out.2.2.2]; omega) (by unfold maxLen; omega) (Nat.le_refl _) ?_; intro w5 hown hg; have hK5 := Box.mk (K2.start hB3.out hfk.out hbw.out.1 hbw.out.2 hD3.out hbx3.out hC4.out hB4.out hown hg); clear hown hg)
        | (refine wpList_min rfl (.tmp 66) (.const (.int .i64 60)) 3 rfl (L2 : Int) 60 (M2 : Int) rfl rfl hi2.out ?_))
      generalize w3.heap.size = z1 at hK5
      generalize w4.heap.size = bt at hK5 ⊢
      clear hD3 hbx3 hB3 hC4 hB4 hfk hH
      go_loopw [70] (fun s70 wr => ∃ (i : Nat) (D : Dev) (tch : List Bool), i ≤ M2 ∧ s70 = .int .i64 i ∧ Box (K2 w bf bd bc bt z1 bt fv S1 i D Db tch wr)) (fun s70 _ => M2 - (intOf s70).toNat)
      case atStart => exact ⟨0, Db, _, by omega, rfl, hK5⟩
      case round =>
        clear hK5
        obtain ⟨i, D, tch, hi, rfl, hK⟩ := hrel
        by_cases hlt : i < M2
        · obtain ⟨cb, co, rfl, hcb, hcs⟩ := h2.out.out (by omega)
          obtain ⟨kk, n, s, v, l, d0, d1, d2, d3, hn, hs, hIv, _⟩ := hcs i hlt
          obtain ⟨va, vc, rfl, _⟩ := hIv.out
          generalize l.length = vl at *
          rw [← hK.out.k.cell (p := ⟨cb, _, none⟩) hcb] at d0 d1 d2 d3
          have hnew := Blk.new wr [.int .u8 (kk.toNat : Int), .int .i64 n, .string s, .slice va vl vc] 32
          obtain ⟨wn, hwn⟩ : ∃ wn, wr.alloc (.cells #[.int .u8 (kk.toNat : Int), .int .i64 n, .string s, .slice va vl vc] 32) = wn := ⟨_, rfl⟩
          have hKn := hK.out.keep (hwn ▸ (Below.refl _ _).alloc (Nat.le_refl _) _ : Below wr.heap.size wr wn)
          rw [hwn] at hnew
          have hbl := hK.out.tb.lt
          obtain ⟨bo, hbo⟩ : ∃ bo, wr.heap.size = bo := ⟨_, rfl⟩
          rw [hbo] at hnew
          have e1 : wn.cell? ⟨bo, 1, none⟩ = some (.int .i64 n) := hnew.cell 1
          have e2 : wn.cell? ⟨bo, 2, none⟩ = some (.string s) := hnew.cell 2
          obtain ⟨q, hq, hqe⟩ := num20 n
          have hq2 : (IntKind.u64.wrap n).tmod 20 = (q : Int) := by rw [← hqe]; exact (num20_mod n).symm
          have htq : ∃ b, wn.cell? ⟨bt, q, none⟩ = some (.bool b) := by
            have := hKn.tb.cell q
            rw [List.getElem?_map, List.getElem?_eq_getElem (by rw [hKn.tl]; exact hq)] at this
            exact ⟨_, this⟩
          obtain ⟨b0, htq⟩ := htq
          have hfq := hKn.tb.free q
          have hKs := hKn.store q
          have e3 : (wn.setCell ⟨bt, q, none⟩ (.bool true)).cell? ⟨bo, 2, none⟩ = some (.string s) := by
            rw [World.cell?_setCell_other _ _ _ _ (by intro h; cases h; omega)]; exact e2
          obtain ⟨p, hp⟩ : ∃ p, min s.size 64 = p := ⟨_, rfl⟩
          have hip : Box ((if (64 : Int) < (s.size : Int) then 64 else (s.size : Int)) = (p : Int)) := ⟨by split <;> omega⟩
          have hps : p ≤ s.size := by omega
          have hts : (s.extract 0 p).size ≤ 64 := by rw [ByteArray.size_extract]; omega
          have hW := hKs.write (by omega) q hq (by rw [List.getD_eq_getElem?_getD, List.getElem?_set_self (by rw [hKn.tl]; exact hq)]; rfl) (s.extract 0 p) hts
          replace hW := Box.mk hW
          replace hnew := Box.mk hnew
          replace hqe := Box.mk hqe
          clear hcs hK hKn hKs hts hp hbl
          go_wp2_with (refine wpList_min rfl (.tmp 88) (.const (.int .i64 64)) 3 rfl (s.size : Int) 64 (p : Int) rfl rfl hip.out ?_)
          refine hW.out.mono ?_
          rintro e w6 ⟨rfl, ⟨D6, hK6⟩⟩
          replace hK6 := Box.mk hK6
          clear hW e1 e2 e3 d0 d1 d2 d3 htq hfq
          go_wp2_with fail
          exact ⟨⟨i + 1, D6, _, by omega, by go_num, hK6⟩, by simp [intOf]; omega⟩
        · have hCr := Box.mk (hK.out.crash (by omega) keep hI.out hkl.out)
          have c0 : wr.cell? ⟨bf, 0, none⟩ = some fv := hK.out.bx.cell 0
          clear hK h2
          go_wp2_with fail
          refine hCr.out.mono ?_
          rintro e w6 ⟨rfl, ⟨D6, hK6⟩⟩
          replace hK6 := Box.mk hK6
          clear hCr c0
          go_wp2_with fail
          go_loopw [97] (fun s97 wr => ∃ i : Nat, i ≤ 20 ∧ s97 = .int .i64 i ∧ Box (K3 w bf bd bc bt z1 bt D6 Db tch wr)) (fun s97 _ => 20 - (intOf s97).toNat)
          case atStart => exact ⟨0, by omega, rfl, hK6⟩
          case round =>
            clear hK6
            obtain ⟨j, hj, rfl, hK⟩ := hrel
            by_cases hlt : j < 20
            · obtain ⟨r1, r2⟩ := hK.out.ref j hlt
              have hRd := hK.out.dv.read (j : Int)
              have hRs := hK.out.sf.read (j : Int)
              have hsame := hK.out.same j hlt
              have ht : wr.cell? ⟨bt, j, none⟩ = some (.bool (tch.getD j false)) := by
                have := hK.out.tb.cell j
                rw [List.getElem?_map] at this
                rw [this, List.getD_eq_getElem?_getD, List.getElem?_eq_getElem (by rw [hK.out.tl]; exact hlt)]; rfl
              cases htj : tch.getD j false with
              | false =>
                rw [htj] at ht
                have e := hsame htj
                have e1 : readR D6 (j : Int) = .tuple #[.string (bt1 (D6.read j)), .int .i64 0] := by unfold readR; rw [r1]; rfl
                have e2 : readR Db (j : Int) = .tuple #[.string (bt1 (D6.read j)), .int .i64 0] := by unfold readR; rw [r2, e]; rfl
                rw [e1] at hRd
                rw [e2] at hRs
                generalize bt1 (D6.read j) = T at hRd hRs
                replace hRd := Box.mk hRd
                replace hRs := Box.mk hRs
                clear e e1 e2 hsame r1 r2 htj
                go_wp2_with fail
                refine hRd.out.mono ?_
                rintro e w' ⟨rfl, rfl⟩
                go_wp2_with fail
                refine hRs.out.mono ?_
                rintro e w' ⟨rfl, rfl⟩
                clear hRd hRs
                go_wp2_with fail
                exact ⟨⟨j + 1, by omega, by go_num, hK⟩, by simp [intOf]; omega⟩
              | true =>
                rw [htj] at ht
                have e1 : readR D6 (j : Int) = .tuple #[.string (bt1 (D6.read j)), .int .i64 0] := by unfold readR; rw [r1]; rfl
                have e2 : readR Db (j : Int) = .tuple #[.string (bt1 (Db.read j)), .int .i64 0] := by unfold readR; rw [r2]; rfl
                rw [e1] at hRd
                rw [e2] at hRs
                generalize bt1 (D6.read j) = T at hRd
                generalize bt1 (Db.read j) = T2 at hRs
                replace hRd := Box.mk hRd
                replace hRs := Box.mk hRs
                clear e1 e2 hsame r1 r2 htj
                go_wp2_with fail
                refine hRd.out.mono ?_
                rintro e w' ⟨rfl, rfl⟩
                go_wp2_with fail
                refine hRs.out.mono ?_
                rintro e w' ⟨rfl, rfl⟩
                clear hRd hRs
                go_wp2_with fail
                exact ⟨⟨j + 1, by omega, by go_num, hK⟩, by simp [intOf]; omega⟩
            · have hPd := hK.out.dv.pending
              have hOf := hK.out.dv.off
              rw [hK.out.ws.1] at hPd
              rw [hK.out.ws.2] at hOf
              have hfin := Box.mk hK.out.k
              replace hPd := Box.mk hPd
              replace hOf := Box.mk hOf
              clear hK
              go_wp2_with fail
              refine hPd.out.mono ?_
              rintro e w' ⟨rfl, rfl⟩
              go_wp2_with fail
              refine hOf.out.mono ?_
              rintro e w' ⟨rfl, rfl⟩
              clear hPd hOf
              go_wp2_with fail
              go_ret
              exact ⟨rfl, hfin.out⟩
end Go.Proofs.Ytcccokdbgmejdaa
