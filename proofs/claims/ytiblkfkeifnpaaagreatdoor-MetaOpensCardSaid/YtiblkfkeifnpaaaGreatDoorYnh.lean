/- A key of height 0 of the document's, whose blocks are all new: what changes no block as new as the key keeps it. | meta: signatures pushed onto a row; what MetaOpens keeps beside each other: the IDs' row, the signatures' row, a key. | meta: a row of bytes that came in. -/
import Derived.Test.YtiblkfkeifnpaaaGreatDoorYmk
import Derived.Test.YtiblkfkeifnpaaaGreatDoorYnc
import Derived.Test.YtiblkfkeifnpaaaGreatDoorYnd
set_option linter.all false
namespace Go.Proofs.YtiblkfkeifnpaaaGreatDoor
open Go Go.RowKit

/-- A key of height 0, its blocks all from B on. -/
def Key0 (B : Nat) (w : World) (b : Nat) (s : ByteArray) : Prop :=
  QKey w b s 0 0 ∧ ∀ (S : Nat → Prop) (w' : World), Pk.Chg S w w' → (∀ k, B ≤ k → ¬ S k) → QKey w' b s 0 0
set_option maxHeartbeats 3200000 in
set_option maxRecDepth 100000 in
theorem r6new0 (s : ByteArray) (w : World) (hs : s.size ≤ 140737488351232) :
    Calls Tryz.prog 22 #[.string s, .int .i64 0] w fun e w' => e = .returned (.tuple #[.pointer (some ⟨w.heap.size, 0, none⟩), .int .i64 0]) ∧ Key0 w.heap.size w' w.heap.size s ∧ Below w.heap.size w w' := by
  have hP := fun n w1 (hn : n < 65536) => rpublic_ok s n w1 hn hs
  obtain ⟨iT, hiT, hzT, hsT, hbT⟩ := info_parts info_s
  obtain ⟨iS, hiS, hzS, hsS, hbS⟩ := info_parts info_ss
  have hT := Box.mk (And.intro hiT (And.intro hzT (And.intro hsT hbT)))
  have hS := Box.mk (And.intro hiS (And.intro hzS (And.intro hsS hbS)))
  obtain ⟨w1, hw1⟩ : ∃ w1, w.alloc (.cells #[.string s, .int .i64 0, .slice none 0 0, .int .i64 0] 105) = w1 := ⟨_, rfl⟩
  have hL0 : LowAt w w1 s 0 0 (.slice none 0 0) := by
    refine ⟨Pk.Row.nil _ _ _, (fun k hk => by cases hk), ?_, ?_⟩
    · rw [← hw1]; exact Blk.new w (qcells s 0 (.slice none 0 0) 0) _
    · rw [← hw1]; exact (Below.refl _ _).alloc (Nat.le_refl _) _
  replace hL0 := Box.mk hL0
  replace hP := Box.mk hP
  clear hiT hzT hsT hbT hiS hzS hsS hbS hs
  go_enter Tryz.func22, Tryz.ntmps22
  go_wp2_with fail
  replace hw1 := Box.mk hw1
  go_loopw [7, 8] (fun v q wr => ∃ n : Nat, n ≤ 1 ∧ q = .int .i64 (n : Int) ∧ Box (LowAt w wr s 0 n v)) (fun _ q _ => 1 - (intOf q).toNat)
  case atStart => exact ⟨0, by omega, rfl, hL0⟩
  case round =>
    clear hL0
    obtain ⟨n, hn, rfl, hL⟩ := hrel
    by_cases hlt : n < 1
    · have hF := hP.out n wr (by omega)
      obtain ⟨x, hx⟩ : ∃ x, pubT s n = x := ⟨_, rfl⟩
      rw [hx] at hF
      replace hx := Box.mk hx
      have hii : (n : Int) < 1 := by omega
      go_wp2_with fail
      refine hF.mono ?_
      clear hF
      rintro e w2 ⟨rfl, hb2⟩
      have hR2 := hL.out.row.chg (chg0 (S := fun _ => False) hb2) (fun _ _ h => h)
      replace hb2 := Box.mk hb2
      obtain ⟨w3, hw3⟩ : ∃ w3, w2.alloc (.cells #[.string x] 9) = w3 := ⟨_, rfl⟩
      have hb3 : Below w2.heap.size w2 w3 := by rw [← hw3]; exact (Below.refl _ _).alloc (Nat.le_refl _) _
      have hR3 := Box.mk (hR2.chg (chg0 (S := fun _ => False) hb3) (fun _ _ h => h))
      have hc3 := Box.mk (one_new w2 (.string x) 9)
      rw [hw3] at hc3
      have ho3 : Box (∀ u ∈ [Value.string x], u.oneCell' = true) := ⟨by simp [Value.oneCell']⟩
      have hlen : Box (n + 1 ≤ maxLen ∧ (n + 1) * 16 ≤ 140737488355328) := ⟨by unfold maxLen; omega, by omega⟩
      replace hb3 := Box.mk hb3
      clear hR2
      go_wp2_with (refine Pk.wpList_pushR rfl (.tmp 36) (.tmp 38) 22 9 rfl iT (.string ⟨#[]⟩) 1 16 Tryz.underlying22 hT.out.1 hT.out.2.1 hT.out.2.2.1 hT.out.2.2.2 rfl (by omega) _ n (tx s 0 n) rfl hR3.out ⟨w2.heap.size, 0, none⟩ 1 1 [.string x] rfl rfl hc3.out ho3.out hlen.out.1 hlen.out.2 ?_; intro vo w4 hpush)
      have hN := hL.out.push hb2.out hb3.out hx.out hpush
      exact ⟨⟨n + 1, by omega, by go_num, ⟨hN⟩⟩, by simp [intOf]; omega⟩
    · obtain rfl : n = 1 := by omega
      clear hP
      have hLr := hL.out.row
      obtain ⟨g, c, rfl, hgl⟩ := hLr.some (Nat.le_refl 1)
      have hgo : Box (w.heap.size < g) := ⟨hL.out.own g rfl⟩
      have c2 : wr.cell? ⟨w.heap.size, 2, none⟩ = some (.slice none 0 0) := hL.out.blk.cell 2
      obtain ⟨w2, hw2⟩ : ∃ w2, wr.alloc (.cells #[.slice (some ⟨g, 0, none⟩) 1 c] 22) = w2 := ⟨_, rfl⟩
      have hb2 : Below wr.heap.size wr w2 := by rw [← hw2]; exact (Below.refl _ _).alloc (Nat.le_refl _) _
      have hc3 := Box.mk (one_new wr (.slice (some ⟨g, 0, none⟩) 1 c) 22)
      rw [hw2] at hc3
      have ho3 : Box (∀ u ∈ [Value.slice (some ⟨g, 0, none⟩) 1 c], u.oneCell' = true) := ⟨by simp [Value.oneCell']⟩
      have hK2 := Box.mk (hL.out.blk.below hb2 hL.out.blk.lt)
      have hn0 : Box (Pk.Row w2 22 1 (.slice none 0 0) 0 []) := ⟨Pk.Row.nil _ _ _⟩
      replace hb2 := Box.mk hb2
      clear hgl hLr
      go_wp2_with (refine Pk.wpList_pushR rfl (.tmp 44) (.tmp 46) 103 22 rfl iS (.slice none 0 0) 1 24 Tryz.underlying103 hS.out.1 hS.out.2.1 hS.out.2.2.1 hS.out.2.2.2 rfl (by omega) _ 0 [] rfl hn0.out ⟨wr.heap.size, 0, none⟩ 1 1 [.slice (some ⟨g, 0, none⟩) 1 c] rfl rfl hc3.out ho3.out (by decide) (by decide) ?_; intro vo w3 hpush; obtain ⟨bl, cl, rfl, hbl⟩ := hpush.row.some (Nat.succ_pos 0); have hK3 := Box.mk ((nil_pushed hpush).blk hK2.out (fun h => h)); have c3 : w3.cell? ⟨w.heap.size, 2, none⟩ = some (.slice none 0 0) := hK3.out.cell 2; have f3 := hK3.out.free 2; clear hbl)
      obtain ⟨k4, hbl4, hB4⟩ := QPart.start (show (2 : Nat) ^ 0 = 1 from rfl) hL.out hb2.out hpush
      obtain ⟨w4, hw4⟩ : ∃ w4, w3.setCell ⟨w.heap.size, 2, none⟩ (.slice (some ⟨bl, 0, none⟩) 1 cl) = w4 := ⟨_, rfl⟩
      rw [hw4] at k4 hB4 ⊢
      replace k4 := Box.mk k4
      replace hbl4 := Box.mk hbl4
      replace hB4 := Box.mk hB4
      clear hpush hw4 hK3 c3 f3 hn0 hK2 ho3 hc3 hw2 hb2 c2 hL hn hlt hw1
      go_loopw [7, 11] (fun v q wr => v = .slice (some ⟨g, 0, none⟩) 1 c ∧ q = .int .i64 0 ∧ wr = w4) (fun _ _ _ => 0)
      case atStart => exact ⟨rfl, rfl, rfl⟩
      case round =>
        obtain ⟨rfl, rfl, rfl⟩ := hrel
        go_wp2_with fail
        go_returns
        refine ⟨rfl, ⟨⟨⟨bl, cl, _, k4.out⟩, by omega⟩, fun S w' hc hS => ?_⟩, hB4.out⟩
        have q := k4.out
        refine ⟨⟨bl, cl, _, hc.blk q.blk (hS _ (Nat.le_refl _)), q.row.chg hc fun k hk e => ?_, fun i hi => ?_⟩, by omega⟩
        · obtain rfl : bl = k := by simpa [Value.ownBlock] using hk
          exact hS bl (by have := hbl4.out; omega) e
        · obtain ⟨g2, c2, e1, hr⟩ := q.lev i hi
          obtain rfl : i = 0 := by omega
          have e2 : g = g2 := by
            simp only [Nat.sub_self, Nat.pow_zero] at e1
            cases e1
            rfl
          refine ⟨g2, c2, e1, hr.chg hc fun k hk e => ?_⟩
          obtain rfl : g2 = k := by simpa [Value.ownBlock] using hk
          exact hS g2 (by have := hgo.out; omega) e
end Go.Proofs.YtiblkfkeifnpaaaGreatDoor

namespace Go.Proofs.YtiblkfkeifnpaaaGreatDoor
open Go Go.RowKit Go.Proofs.YtiblkfkeifnpaaaGreatDoor.Nt
theorem sgC_length (sg : List (ByteArray × ByteArray)) : (sgC sg).length = sg.length * 2 := by
  induction sg with
  | nil => rfl
  | cons x sg ih =>
    have e : sgC (x :: sg) = .string x.1 :: .string x.2 :: sgC sg := rfl
    rw [e]
    simp [ih]; omega
theorem sgC_append (a b : List (ByteArray × ByteArray)) : sgC (a ++ b) = sgC a ++ sgC b := by simp [sgC]
theorem SigsAt.cells {w : World} {blk off n c : Nat} {zs : List (ByteArray × ByteArray)} (h : SigsAt w (.slice (some ⟨blk, off, none⟩) n c) zs) (j : Nat) (u : Value) (hu : (sgC zs)[j]? = some u) : w.cell? ⟨blk, off + j, none⟩ = some u := by
  have hj : j < zs.length * 2 := by rw [← sgC_length]; exact (List.getElem?_eq_some_iff.1 hu).1
  obtain ⟨a, cc, e, hh⟩ := h.ex
  cases e
  obtain ⟨b2, o2, e2, _, hc⟩ := hh (by omega)
  cases e2
  have hi : j / 2 < zs.length := by omega
  have h1 := hc _ hi
  have h2 := sgC_get zs _ hi
  rcases Nat.mod_two_eq_zero_or_one j with h0 | h0
  · have hj2 : j / 2 * 2 = j := by omega
    rw [hj2] at h1 h2
    rw [h1.1, ← hu, h2.1]
  · have hj2 : j / 2 * 2 + 1 = j := by omega
    rw [Nat.add_assoc, hj2] at h1
    rw [hj2] at h2
    rw [h1.2, ← hu, h2.2]
theorem push_sigs (w : World) (ty : TypeId) (v : Value) (n : Nat) (xs : List Value) (h : Pk.Row w 59 2 v n xs) (a : Option Addr) (m c : Nat) (zs : List (ByteArray × ByteArray)) (hm : zs.length = m) (hz : SigsAt w (.slice a m c) zs) (hlen : (n + m) * 32 ≤ 140737488355328) :
    ∃ v' w', (Builtin.append_ #[46, 46] ty #[v, .slice a m c]).run Tryz.prog w = .ok v' w' ∧ Pk.PushedRow w 59 2 v (n + m) (xs ++ sgC zs) v' w' := by
  obtain ⟨i0, hi, hz0, hz1, hz2⟩ := info_parts info_sig
  subst hm
  obtain ⟨a2, c2, e2, hh⟩ := hz.ex
  cases e2
  by_cases h0 : 0 < zs.length
  · obtain ⟨blk, off, rfl, hb, hc⟩ := hh h0
    exact Pk.push_row (P := Tryz.prog) w 46 ty 59 i0 (.agg #[.string ByteArray.empty, .string ByteArray.empty]) 2 32 Tryz.underlying46 hi hz0 hz1 hz2 rfl (by decide) v n xs h ⟨blk, off, none⟩ zs.length c (sgC zs) (sgC_length zs)
      (fun j u hj => by
        have hadd : (⟨blk, off, none⟩ : Addr).add j = ⟨blk, off + j, none⟩ := by
          unfold Addr.add
          split
          · next h => subst h; rfl
          · rfl
        rw [hadd]
        exact hz.cells j u hj)
      (fun u hu => by
        simp only [sgC, List.mem_flatMap, sigC] at hu
        obtain ⟨y, _, hy⟩ := hu
        rcases List.mem_cons.1 hy with rfl | hy
        · rfl
        · rcases List.mem_cons.1 hy with rfl | hy
          · rfl
          · cases hy) (by unfold maxLen; omega) hlen
  · obtain rfl : zs = [] := List.length_eq_zero_iff.1 (by omega)
    obtain ⟨a3, c3, rfl⟩ := h.shape
    have hle : n ≤ c3 := by
      obtain ⟨_, ⟨h1, h2⟩ | ⟨g, cap, cur, h1, _, _, h3, _⟩⟩ := h
      · omega
      · cases h1; exact h3
    have hs : Src Tryz.prog i0.size 46 (.slice a 0 c) 0 [] w := by
      cases a with
      | none => exact Src.ofNil w Tryz.underlying46 c
      | some ad => exact Src.ofSlice w Tryz.underlying46 ad 0 c [] (by simp) (fun j u hu => by simp at hu) (fun u hu => by cases hu)
    have hr := run_append_nothing (P := Tryz.prog) w 46 46 ty 59 i0 Tryz.underlying46 hi a3 n c3 hle (.slice a 0 c) hs
    exact ⟨_, w, hr, ⟨by simpa [sgC] using h, Pk.Chg.refl _ _, fun k hk => .inl hk⟩⟩
section
variable {w : World} {o : Oper} {a : Act} {Q : Exit → Act → World → Prop}
theorem wp_pushG {K : Act → World → Prop} (s x : Operand) (ho : o.op = .call { callee := .builtin .append, args := #[s, x], argTypes := #[46, 46] }) (v : Value) (n : Nat) (xs : List Value) (hs : a.eval s = v)
    (h : Pk.Row w 59 2 v n xs) (ad : Option Addr) (m c : Nat) (zs : List (ByteArray × ByteArray)) (hx : a.eval x = .slice ad m c) (hm : zs.length = m) (hz : SigsAt w (.slice ad m c) zs) (hlen : (n + m) * 32 ≤ 140737488355328)
    (k : ∀ v' w', Pk.PushedRow w 59 2 v (n + m) (xs ++ sgC zs) v' w' → K (a.put o.dst v') w') : o.wp Tryz.prog a w K Q := by
  obtain ⟨v', w', hr, hp⟩ := push_sigs w o.type v n xs h ad m c zs hm hz hlen
  unfold Oper.wp execOp
  simp only [ho, resolve, invoke, builtin, Sem.run_bind, Sem.run_pure, Result.andThen_ok, List.map_toArray, List.map_cons, List.map_nil, hs, hx, hr]
  exact k _ _ hp
theorem wpList_pushG {ops : Array Oper} {rest : List Oper} (hgd : o.guard = none) (s x : Operand) (ho : o.op = .call { callee := .builtin .append, args := #[s, x], argTypes := #[46, 46] }) (v : Value) (n : Nat) (xs : List Value) (hs : a.eval s = v)
    (h : Pk.Row w 59 2 v n xs) (ad : Option Addr) (m c : Nat) (zs : List (ByteArray × ByteArray)) (hx : a.eval x = .slice ad m c) (hm : zs.length = m) (hz : SigsAt w (.slice ad m c) zs) (hlen : (n + m) * 32 ≤ 140737488355328)
    (k : ∀ v' w', Pk.PushedRow w 59 2 v (n + m) (xs ++ sgC zs) v' w' → wpList Tryz.prog ops Q rest (a.put o.dst v') w') : wpList Tryz.prog ops Q (o :: rest) a w :=
  wpList_plain hgd fun _ hK => wp_pushG s x ho v n xs hs h ad m c zs hx hm hz hlen fun v' w' hp => hK _ _ (k v' w' hp)
end
theorem SgRow.pushL {w0 w w2 : World} {v v' : Value} {sg zs : List (ByteArray × ByteArray)} {m : Nat} (h : SgRow w0 w v sg) (hm : zs.length = m) (hp : Pk.PushedRow w 59 2 v (sg.length + m) (sgC sg ++ sgC zs) v' w2) : SgRow w0 w2 v' (sg ++ zs) := by
  have hs := h.bel.size
  refine ⟨by rw [sgC_append, List.length_append, hm]; exact hp.row, fun k hk => ?_, h.bel.trans (hp.chg.below hs fun i hi => h.own i hi)⟩
  rcases hp.place k hk with h3 | h3
  · exact h.own k h3
  · omega
theorem sig_blk {w : World} {b : Nat} {x : ByteArray × ByteArray} (h : Pk.Blk w b (sigC x) 59) : SigsAt w (.slice (some ⟨b, 0, none⟩) 1 1) [x] := by
  refine ⟨_, _, rfl, fun _ => ⟨b, 0, rfl, h.lt, fun i hi => ?_⟩⟩
  obtain rfl : i = 0 := by simpa using hi
  exact ⟨h.cell 0, h.cell 1⟩
end Go.Proofs.YtiblkfkeifnpaaaGreatDoor
namespace Go.Proofs.YtiblkfkeifnpaaaGreatDoor.Me
open Go Go.RowKit Go.Proofs.YtiblkfkeifnpaaaGreatDoor Go.Proofs.YtiblkfkeifnpaaaGreatDoor.Nt
theorem sig_chg_ty {w w' : World} {n m : Nat} {v v' : Value} {xs ys : List Value} (h : Pk.Row w 59 2 v n xs) (_ : Pk.PushedRow w 59 2 v m ys v' w') (i : Nat) (t : TypeId) (hi : v.ownBlock = some i) (hty : Ty w i t) : t = 59 := by
  obtain ⟨_, ⟨rfl, _⟩ | ⟨g, cap, cur, rfl, _, hg, _⟩⟩ := h
  · cases hi
  · obtain rfl : g = i := by simpa [Value.ownBlock] using hi
    exact hty.inj ⟨_, hg⟩
/-- A row of bytes that came in. -/
structure ByIn (w : World) (a : Option Addr) (L : Nat) (bs : Nat → Nat) : Prop where
  out : 0 < L → ∃ blk off, a = some ⟨blk, off, none⟩ ∧ blk < w.heap.size ∧ ∀ i, i < L → bs i < 256 ∧ w.cell? ⟨blk, off + i, none⟩ = some (.int .u8 (bs i : Int))
/-- The IDs' row. -/
structure OA (w0 : World) (v9 : Value) (ids : List ByteArray) (w : World) : Prop where
  ids : TxR w0.heap.size w v9 ids
  bel : Below w0.heap.size w0 w
theorem OA.on {w0 w w' : World} {v9 : Value} {ids : List ByteArray} (h : OA w0 v9 ids w) (hb : Below w.heap.size w w') : OA w0 v9 ids w' := ⟨h.ids.here hb, mono_bel h.bel hb (Nat.le_refl _)⟩
/-- .. and the signatures' row. -/
structure OR (w0 : World) (v9 : Value) (ids : List ByteArray) (v : Value) (sg : List (ByteArray × ByteArray)) (w : World) : Prop where
  a : OA w0 v9 ids w
  row : SgRow w0 w v sg
theorem OR.on {w0 w w' : World} {v9 v : Value} {ids : List ByteArray} {sg : List (ByteArray × ByteArray)} (h : OR w0 v9 ids v sg w) (hb : Below w.heap.size w w') : OR w0 v9 ids v sg w' := ⟨h.a.on hb, h.row.here hb⟩
/-- .. a key beside. -/
structure OB (w0 : World) (v9 : Value) (ids : List ByteArray) (kb : Nat) (s : ByteArray) (w : World) : Prop where
  a : OA w0 v9 ids w
  key : QKey w kb s 0 0
theorem OB.on {w0 w w' : World} {kb : Nat} {s : ByteArray} {v9 : Value} {ids : List ByteArray} (h : OB w0 v9 ids kb s w) (hb : Below w.heap.size w w') : OB w0 v9 ids kb s w' := ⟨h.a.on hb, h.key.here hb⟩
def OC (w0 : World) (v9 : Value) (ids : List ByteArray) (kb : Nat) (s : ByteArray) (u : Value) (sg : List (ByteArray × ByteArray)) : World → Prop := fun w => OB w0 v9 ids kb s w ∧ SgRow w0 w u sg
def OD (w0 : World) (v9 : Value) (ids : List ByteArray) (kb : Nat) (s : ByteArray) (u : Value) (sg : List (ByteArray × ByteArray)) (bq : Nat) (x : ByteArray × ByteArray) : World → Prop := fun w => OC w0 v9 ids kb s u sg w ∧ Pk.Blk w bq (sigC x) 59
section
variable {w0 w w' : World} {kb : Nat} {s : ByteArray} {v9 u : Value} {ids : List ByteArray} {sg : List (ByteArray × ByteArray)}
theorem OC.on (h : OC w0 v9 ids kb s u sg w) (hb : Below w.heap.size w w') : OC w0 v9 ids kb s u sg w' := ⟨h.1.on hb, h.2.here hb⟩
theorem ids_sigs (h : TxR w0.heap.size w v9 ids) (k : SgRow w0 w u sg) : ∀ i, v9.ownBlock = some i → u.ownBlock ≠ some i := by
  intro i h1 h2
  obtain ⟨_, ⟨rfl, _⟩ | ⟨g, cap, cur, rfl, _, hg, _⟩⟩ := h
  · cases h1
  · obtain rfl : g = i := by simpa [Value.ownBlock] using h1
    obtain ⟨_, ⟨rfl, _⟩ | ⟨g2, cap2, cur2, rfl, _, hg2, _⟩⟩ := k.row
    · cases h2
    · obtain rfl : g2 = g := by simpa [Value.ownBlock] using h2
      rw [hg] at hg2
      cases hg2
theorem OC.push {x : ByteArray × ByteArray} {u' : Value} (h : OC w0 v9 ids kb s u sg w) (hp : Pk.PushedRow w 59 2 u (sg.length + 1) (sgC sg ++ sgC [x]) u' w') : OC w0 v9 ids kb s u' (sg ++ [x]) w' := by
  have h1 := h.2.pushL (zs := [x]) rfl hp
  refine ⟨⟨⟨h.1.a.ids.chg hp.chg fun k hk e => ids_sigs h.1.a.ids h.2 k hk e, h1.bel⟩, ?_⟩, h1⟩
  refine h.1.key.keep hp.chg fun i t hi hS hT => ?_
  have := sig_chg_ty h.2.row hp i t hS hT
  subst this
  decide
/-- An ID more. -/
theorem OR.id {v : Value} {z : ByteArray} {v9' : Value} (h : OR w0 v9 ids v sg w) (hp : PushedT w0.heap.size w v9 (ids ++ [z]) v9' w') : OR w0 v9' (ids ++ [z]) v sg w' := by
  have hbel := hp.bel h.a.bel h.a.ids
  refine ⟨⟨hp.row, hbel⟩, h.row.row.chg hp.chg fun k hk e => ids_sigs h.a.ids h.row k e hk, h.row.own, hbel⟩
end
/-- The seed of the i-th key. -/
def sd (i : Nat) : ByteArray := ⟨#[UInt8.ofNat (97 + i)]⟩
theorem rune_enc4 (i : Nat) (hi : i < 4) : Utf8.encode (97 + (i : Int)) = sd i := by
  obtain rfl | rfl | rfl | rfl : i = 0 ∨ i = 1 ∨ i = 2 ∨ i = 3 := by omega
  all_goals decide +kernel
end Go.Proofs.YtiblkfkeifnpaaaGreatDoor.Me

namespace Go.Proofs.YtiblkfkeifnpaaaGreatDoor.Me
open Go Go.ChangeShapes Go.WideShapes Go.ChangeAt Go.RowKit Go.ChangeMaps Go.Proofs.YtiblkfkeifnpaaaGreatDoor Go.Proofs.YtiblkfkeifnpaaaGreatDoor.Nt
set_option maxRecDepth 100000 in
theorem by_open {H : Type} {enc : TypeId × Value → H} {W : World} {base : Nat} {v : Value} {d : DataW H} {p : List MemPlace}
    (hv : Value.okWide Tryz.prog W .any base 52 v) (h : DataW.Trod enc Tryz.prog W 0 (fun _ => true) true 52 v d p) :
    ∃ (a : Option Addr) (L c : Nat) (bs : Nat → Nat), v = .slice a L c ∧ ByIn W a L bs ∧ L ≤ c ∧ c ≤ maxLen := by
  obtain ⟨a0, l0, c0, rfl⟩ := okWide_slice Tryz.underlying52 hv
  obtain ⟨fuel, hf⟩ := h
  rcases open_ints Tryz.underlying52 Tryz.underlying5 (by kernel_rfl) hf with ⟨hcs, hx⟩ | ⟨a, len, cap, zs, hcs, _, hl, hm, hzl, hx, hcell, hwf⟩
  · simp [Value.cells] at hcs
    obtain ⟨rfl, rfl, rfl⟩ := hcs
    exact ⟨none, 0, 0, fun _ => 0, rfl, ⟨fun h => absurd h (Nat.lt_irrefl 0)⟩, Nat.le_refl _, Nat.zero_le _⟩
  · simp [Value.cells] at hcs
    obtain ⟨rfl, rfl, rfl⟩ := hcs
    simp only [if_true] at hzl
    refine ⟨some a, l0, c0, fun i => (zs.getD i 0).toNat, rfl, ⟨fun h0 => ?_⟩, hl, hm⟩
    have hc0 := hcell 0 (by omega)
    obtain ⟨blk, off, spot⟩ := a
    have hspot : spot = none := by simpa [Addr.add] using World.cell?_spot hc0
    subst hspot
    refine ⟨blk, off, rfl, by simpa [Addr.add] using World.block_lt_of_cell? W _ hc0, fun i hi => ?_⟩
    have hci := hcell i (by omega)
    have hadd : (⟨blk, off, none⟩ : Addr).add i = ⟨blk, off + i, none⟩ := by
      unfold Addr.add
      split
      · next h => subst h; rfl
      · rfl
    rw [hadd] at hci
    have hil : i < zs.length := by omega
    have hw := hwf (zs.getD i 0) (by rw [List.getD, List.getElem?_eq_getElem hil]; exact List.getElem_mem hil)
    have h0 : IntKind.u8.min ≤ zs.getD i 0 ∧ zs.getD i 0 ≤ IntKind.u8.max := by simpa [Lit.wf] using hw
    have h1 : IntKind.u8.min = 0 := by decide
    have h2 : IntKind.u8.max = 255 := by decide
    refine ⟨by omega, ?_⟩
    rw [hci, show (((zs.getD i 0).toNat : Nat) : Int) = zs.getD i 0 by omega]
end Go.Proofs.YtiblkfkeifnpaaaGreatDoor.Me
