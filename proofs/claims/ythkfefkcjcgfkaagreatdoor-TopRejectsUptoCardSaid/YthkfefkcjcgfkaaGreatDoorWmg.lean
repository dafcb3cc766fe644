/- meta: a writer and what is kept beside it, for both writers. | meta: what the program lays of a document; Encode. -/
import Derived.Test.YthkfefkcjcgfkaaGreatDoorWmd
set_option linter.all false
namespace Go.Proofs.YthkfefkcjcgfkaaGreatDoor.Me
open Go Go.RowKit Go.Proofs.YthkfefkcjcgfkaaGreatDoor Go.Proofs.YthkfefkcjcgfkaaGreatDoor.Nt
/-- A writer in memory, new since W0, with the items that it was given. -/
structure Wr (W0 w : World) (b : Nat) (t : TypeId) (its : List (Bool × List UInt8)) : Prop where
  out : ∃ v l bad, Pk.WAt w b t v l bad ∧ Laid its [] false l bad ∧ ∀ k, v.ownBlock = some k → W0.heap.size ≤ k
  bel : Below W0.heap.size W0 w
  hb : W0.heap.size ≤ b
/-- What else stands in memory is kept. -/
def Kp (b : Nat) (w w' : World) : Prop := ∀ bq cs tq, tq ≠ 5 → bq ≠ b → Pk.Blk w bq cs tq → Pk.Blk w' bq cs tq
theorem Kp.refl (b : Nat) (w : World) : Kp b w w := fun _ _ _ _ _ h => h
theorem Kp.trans {b : Nat} {w w1 w2 : World} (h : Kp b w w1) (k : Kp b w1 w2) : Kp b w w2 := fun bq cs tq h1 h2 h3 => k bq cs tq h1 h2 (h bq cs tq h1 h2 h3)
theorem Kp.below {b : Nat} {w w' : World} (h : Below w.heap.size w w') : Kp b w w' := fun _ _ _ _ _ h3 => blk_here h3 h
theorem Wr.below {W0 w w' : World} {b : Nat} {t : TypeId} {its : List (Bool × List UInt8)} (h : Wr W0 w b t its) (hb : Below w.heap.size w w') : Wr W0 w' b t its := by
  obtain ⟨v, l, bad, h1, h2, h3⟩ := h.out
  refine ⟨⟨v, l, bad, ?_, h2, h3⟩, mono_bel h.bel hb (Nat.le_refl _), h.hb⟩
  exact h1.chg (S := fun _ => False) (chg0 hb) (fun h => h) (fun _ _ h => h)
theorem Wr.lt {W0 w : World} {b : Nat} {t : TypeId} {its : List (Bool × List UInt8)} (h : Wr W0 w b t its) : b < w.heap.size := by
  obtain ⟨v, l, bad, h1, h2, h3⟩ := h.out
  exact h1.blk.lt
theorem Wr.len {W0 w : World} {b : Nat} {t : TypeId} {its : List (Bool × List UInt8)} {l : List UInt8} {bad : Bool} (h : Laid its [] false l bad) (hn : its.length ≤ 10000) : l.length ≤ 700000000 := by
  have := h.len
  have h2 := Nat.mul_le_mul_left 70000 hn
  simp only [List.length_nil, Nat.zero_add] at this
  omega
theorem wr_next {W0 w w' : World} {b : Nat} {t : TypeId} {v : Value} {l l2 : List UInt8} {bad bad2 : Bool} {its2 : List (Bool × List UInt8)} (hW : Pk.WAt w b t v l bad) (ho : ∀ k, v.ownBlock = some k → W0.heap.size ≤ k) (hB : Below W0.heap.size W0 w) (hb : W0.heap.size ≤ b)
    (hn : Pk.WNext w b t v l2 bad2 w') (hl : Laid its2 [] false l2 bad2) : Wr W0 w' b t its2 ∧ Kp b w w' := by
  refine ⟨?_, fun bq cs tq h1 h2 h3 => wnext_blk hW hn h3 h1 h2⟩
  obtain ⟨v', h1, h2, h3⟩ := hn.out
  refine ⟨⟨v', l2, bad2, h1, hl, fun k hk => ?_⟩, hB.trans (h2.below hB.size fun i hi => ?_), hb⟩
  · rcases h3 k hk with h | h
    · exact ho k h
    · exact Nat.le_trans hB.size h
  · rcases hi with rfl | hi
    · exact hb
    · exact ho i hi
theorem wr_lz {W0 w w' : World} {b : Nat} {t : TypeId} {v : Value} {l : List UInt8} {bad : Bool} {its its1 : List (Bool × List UInt8)} (hW : Pk.WAt w b t v l bad) (ho : ∀ k, v.ownBlock = some k → W0.heap.size ≤ k) (hB : Below W0.heap.size W0 w) (hb : W0.heap.size ≤ b) (hl : Laid its [] false l bad)
    (hz : Lz w b t v its1 l bad w') : Wr W0 w' b t (its ++ its1) ∧ Kp b w w' := by
  obtain ⟨v', l', bad', h1, h2, h3, h4⟩ := hz.out
  exact wr_next hW ho hB hb ⟨⟨v', h1, h2, h3⟩⟩ (hl.trans h4)
theorem wr_new (w : World) (t : TypeId) : Wr w (w.alloc (.cells #[.slice none 0 0, .bool false] t)) w.heap.size t [] :=
  ⟨⟨.slice none 0 0, [], false, ⟨Pk.Blk.new w [.slice none 0 0, .bool false] t, Pk.Own.nil _⟩, Laid.nil _ _, fun k hk => by cases hk⟩, bel_alloc _ _, Nat.le_refl _⟩
theorem nuI_le (n : Int) (k : Nat) (hk : k ≤ 8) : (nuI n k).2.length ≤ 70000 := by
  show (Pk.beN n.toNat k).length ≤ 70000
  rw [Pk.beN_length]; omega
abbrev WPost (W0 w : World) (b : Nat) (t : TypeId) (its : List (Bool × List UInt8)) (e : Ending) (w' : World) : Prop := e = .returned (.tuple #[]) ∧ Wr W0 w' b t its ∧ Kp b w w'
/-- The program's writer. -/
theorem w_byte {W0 w : World} {b : Nat} {its : List (Bool × List UInt8)} (h : Wr W0 w b 84 its) (hn : its.length ≤ 10000) (n : Int) :
    Calls Tryz.prog 41 #[.pointer (some ⟨b, 0, none⟩), .int .i64 n] w (WPost W0 w b 84 (its ++ [nuI n 1])) := by
  obtain ⟨v, l, bad, h1, h2, h3⟩ := h.out
  have := Wr.len (W0 := w) (w := w) (b := b) (t := 0) h2 hn
  exact (Pk.byte_any b v l bad n w h1 (by omega)).mono fun e w' he => ⟨he.1, wr_next h1 h3 h.bel h.hb he.2 (h2.lays _ _ fun _ => nuI_le n 1 (by omega))⟩
theorem w_two {W0 w : World} {b : Nat} {its : List (Bool × List UInt8)} (h : Wr W0 w b 84 its) (hn : its.length ≤ 10000) (n : Int) :
    Calls Tryz.prog 42 #[.pointer (some ⟨b, 0, none⟩), .int .i64 n] w (WPost W0 w b 84 (its ++ [nuI n 2])) := by
  obtain ⟨v, l, bad, h1, h2, h3⟩ := h.out
  have := Wr.len (W0 := w) (w := w) (b := b) (t := 0) h2 hn
  exact (Pk.two_any b v l bad n w h1 (by omega)).mono fun e w' he => ⟨he.1, wr_next h1 h3 h.bel h.hb he.2 (h2.lays _ _ fun _ => nuI_le n 2 (by omega))⟩
theorem w_eight {W0 w : World} {b : Nat} {its : List (Bool × List UInt8)} (h : Wr W0 w b 84 its) (hn : its.length ≤ 10000) (n : Int) :
    Calls Tryz.prog 43 #[.pointer (some ⟨b, 0, none⟩), .int .i64 n] w (WPost W0 w b 84 (its ++ [nuI n 8])) := by
  obtain ⟨v, l, bad, h1, h2, h3⟩ := h.out
  have := Wr.len (W0 := w) (w := w) (b := b) (t := 0) h2 hn
  exact (Pk.eight_any b v l bad n w h1 (by omega)).mono fun e w' he => ⟨he.1, wr_next h1 h3 h.bel h.hb he.2 (h2.lays _ _ fun _ => nuI_le n 8 (by omega))⟩
theorem w_hash {W0 w : World} {b : Nat} {its : List (Bool × List UInt8)} (h : Wr W0 w b 84 its) (hn : its.length ≤ 10000) (s : ByteArray) :
    Calls Tryz.prog 34 #[.pointer (some ⟨b, 0, none⟩), .string s] w (WPost W0 w b 84 (its ++ [idI s])) := by
  obtain ⟨v, l, bad, h1, h2, h3⟩ := h.out
  have := Wr.len (W0 := w) (w := w) (b := b) (t := 0) h2 hn
  exact (Pk.hash_any b v l bad s w h1 (by omega)).mono fun e w' he => ⟨he.1, wr_next h1 h3 h.bel h.hb he.2 (h2.lays _ _ fun h => idI_le s h)⟩
theorem w_text {W0 w : World} {b : Nat} {its : List (Bool × List UInt8)} (h : Wr W0 w b 84 its) (hn : its.length ≤ 10000) (s : ByteArray) :
    Calls Tryz.prog 115 #[.pointer (some ⟨b, 0, none⟩), .string s] w (WPost W0 w b 84 (its ++ [txI s])) := by
  obtain ⟨v, l, bad, h1, h2, h3⟩ := h.out
  have := Wr.len (W0 := w) (w := w) (b := b) (t := 0) h2 hn
  exact (Pk.text_any b v l bad s w h1 (by omega)).mono fun e w' he => ⟨he.1, wr_next h1 h3 h.bel h.hb he.2 (h2.lays _ _ fun h => txI_le s h)⟩
theorem w_set {W0 w : World} {b : Nat} {its : List (Bool × List UInt8)} (h : Wr W0 w b 84 its) (hn : its.length ≤ 10000) (s : SetM) (x : Option Addr × Nat) (hp : PartsAt W0 (.slice x.1 s.1.length x.2) s.1) (hm : s.1.length ≤ maxLen) :
    Calls Tryz.prog 114 #[.pointer (some ⟨b, 0, none⟩), .agg #[.slice x.1 s.1.length x.2, .int .i64 s.2]] w (WPost W0 w b 84 (its ++ setIs s.1 s.2)) := by
  obtain ⟨v, l, bad, h1, h2, h3⟩ := h.out
  have := Wr.len (W0 := w) (w := w) (b := b) (t := 0) h2 hn
  exact (lay_any b v l bad _ s.1 s.2 W0 w h1 hp h.bel h.hb h3 hm (by omega)).mono fun e w' he => ⟨he.1, wr_lz h1 h3 h.bel h.hb h2 he.2⟩
theorem w_bytes {W0 w : World} {b : Nat} {its : List (Bool × List UInt8)} (h : Wr W0 w b 84 its) {s : List UInt8} (hf : Fit its s) :
    Calls Tryz.prog 35 #[.pointer (some ⟨b, 0, none⟩)] w fun e w' => e = .returned (.tuple #[.string (Pk.btx s), .int .i64 0]) ∧ w = w' := by
  obtain ⟨v, l, bad, h1, h2, h3⟩ := h.out
  exact (Pk.bytes_any b v l bad w h1).mono fun e w' he => ⟨by rw [he.1, Laid.fit h2 hf], he.2⟩
end Go.Proofs.YthkfefkcjcgfkaaGreatDoor.Me

namespace Go.Proofs.YthkfefkcjcgfkaaGreatDoor.Me
open Go Go.RowKit Go.Proofs.YthkfefkcjcgfkaaGreatDoor Go.Proofs.YthkfefkcjcgfkaaGreatDoor.Nt
theorem Wr.eq {W0 w : World} {b : Nat} {t : TypeId} {its its' : List (Bool × List UInt8)} (h : Wr W0 w b t its) (e : its = its') : Wr W0 w b t its' := e ▸ h
set_option maxHeartbeats 3200000 in
set_option maxRecDepth 100000 in
theorem laylink_any {W0 w : World} {b : Nat} {its : List (Bool × List UInt8)} (h : Wr W0 w b 84 its) (hn : its.length ≤ 9000) (d : Dc) (z : Sl) :
    Calls Tryz.prog 79 #[.pointer (some ⟨b, 0, none⟩), docV d z] w (WPost W0 w b 84 (its ++ [nuI d.f.oo 2, idI d.f.hs])) := by
  have hlt := h.lt
  obtain ⟨W1, hW1, hB1, hS1⟩ := doc_new w d z 46
  have hW := Box.mk (h.below hB1.out)
  have hK : Box (Kp b w W1) := ⟨Kp.below hB1.out⟩
  replace hS1 := Box.mk hS1
  have hne : Box (w.heap.size ≠ b) := ⟨by omega⟩
  obtain ⟨s0, s1, s2, s3, s4, s5, s6, s7, s8, s9, s10, s11, s12, s13, s14, s15, s16, s17, s18, s19, s20⟩ := doc_cells hS1.out
  clear h
  show Calls _ _ #[.pointer (some ⟨b, 0, none⟩), .agg (docL _ z).toArray] w _
  go_enter Tryz.func79, Tryz.ntmps79
  have hq := Box.mk (w_two hW.out (by first | omega | (simp only [List.length_append, List.length_cons, List.length_nil]; omega)) d.f.oo)
  go_wp2_with fail
  refine hq.out.mono ?_
  clear hq
  rintro e v2 ⟨rfl, hw, hk⟩
  replace hW := Box.mk hw
  replace hK := Box.mk (hK.out.trans hk)
  have hS2 := Box.mk (hk _ _ _ (by decide) hne.out hS1.out)
  clear hw hk hS1 s0 s1 s2 s3 s4 s5 s6 s7 s8 s9 s10 s11 s12 s13 s14 s15 s16 s17 s18 s19 s20
  obtain ⟨s0, s1, s2, s3, s4, s5, s6, s7, s8, s9, s10, s11, s12, s13, s14, s15, s16, s17, s18, s19, s20⟩ := doc_cells hS2.out
  have hq := Box.mk (w_hash hW.out (by first | omega | (simp only [List.length_append, List.length_cons, List.length_nil]; omega)) d.f.hs)
  go_wp2_with fail
  refine hq.out.mono ?_
  clear hq
  rintro e v3 ⟨rfl, hw, hk⟩
  replace hW := Box.mk hw
  replace hK := Box.mk (hK.out.trans hk)
  have hS3 := Box.mk (hk _ _ _ (by decide) hne.out hS2.out)
  clear hw hk hS2 s0 s1 s2 s3 s4 s5 s6 s7 s8 s9 s10 s11 s12 s13 s14 s15 s16 s17 s18 s19 s20
  obtain ⟨s0, s1, s2, s3, s4, s5, s6, s7, s8, s9, s10, s11, s12, s13, s14, s15, s16, s17, s18, s19, s20⟩ := doc_cells hS3.out
  go_wp2_with fail
  go_returns
  exact ⟨rfl, hW.out.eq (by simp), hK.out⟩
theorem ck_cells {w : World} {b : Nat} {c : Ck} {t : TypeId} (h : Pk.Blk w b (ckCells c) t) : w.cell? ⟨b, 0, none⟩ = some (.string c.o) ∧ w.cell? ⟨b, 1, none⟩ = some (.int .i64 c.n) ∧ w.cell? ⟨b, 2, none⟩ = some (.string c.r) := ⟨h.cell 0, h.cell 1, h.cell 2⟩
set_option maxHeartbeats 3200000 in
set_option maxRecDepth 100000 in
theorem laypoint_any {W0 w : World} {b : Nat} {its : List (Bool × List UInt8)} (h : Wr W0 w b 84 its) (hn : its.length ≤ 9000) (c : Ck) :
    Calls Tryz.prog 80 #[.pointer (some ⟨b, 0, none⟩), ckV c] w (WPost W0 w b 84 (its ++ [txI c.o, nuI c.n 2, idI c.r])) := by
  have hlt := h.lt
  obtain ⟨W1, hW1⟩ : ∃ W1, w.alloc (.cells #[.string c.o, .int .i64 c.n, .string c.r] 23) = W1 := ⟨_, rfl⟩
  have hB1 : Box (Below w.heap.size w W1) := ⟨by rw [← hW1]; exact bel_alloc _ _⟩
  have hS1 : Box (Pk.Blk W1 w.heap.size (ckCells c) 23) := ⟨by rw [← hW1]; exact Pk.Blk.new w _ _⟩
  have hW := Box.mk (h.below hB1.out)
  have hK : Box (Kp b w W1) := ⟨Kp.below hB1.out⟩
  have hne : Box (w.heap.size ≠ b) := ⟨by omega⟩
  obtain ⟨s0, s1, s2⟩ := ck_cells hS1.out
  clear h
  unfold ckV
  go_enter Tryz.func80, Tryz.ntmps80
  have hq := Box.mk (w_text hW.out (by first | omega | (simp only [List.length_append, List.length_cons, List.length_nil]; omega)) c.o)
  go_wp2_with fail
  refine hq.out.mono ?_
  clear hq
  rintro e v2 ⟨rfl, hw, hk⟩
  replace hW := Box.mk hw
  replace hK := Box.mk (hK.out.trans hk)
  have hS2 := Box.mk (hk _ _ _ (by decide) hne.out hS1.out)
  clear hw hk hS1 s0 s1 s2
  obtain ⟨s0, s1, s2⟩ := ck_cells hS2.out
  have hq := Box.mk (w_two hW.out (by first | omega | (simp only [List.length_append, List.length_cons, List.length_nil]; omega)) c.n)
  go_wp2_with fail
  refine hq.out.mono ?_
  clear hq
  rintro e v3 ⟨rfl, hw, hk⟩
  replace hW := Box.mk hw
  replace hK := Box.mk (hK.out.trans hk)
  have hS3 := Box.mk (hk _ _ _ (by decide) hne.out hS2.out)
  clear hw hk hS2 s0 s1 s2
  obtain ⟨s0, s1, s2⟩ := ck_cells hS3.out
  have hq := Box.mk (w_hash hW.out (by first | omega | (simp only [List.length_append, List.length_cons, List.length_nil]; omega)) c.r)
  go_wp2_with fail
  refine hq.out.mono ?_
  clear hq
  rintro e v4 ⟨rfl, hw, hk⟩
  replace hW := Box.mk hw
  replace hK := Box.mk (hK.out.trans hk)
  have hS4 := Box.mk (hk _ _ _ (by decide) hne.out hS3.out)
  clear hw hk hS3 s0 s1 s2
  obtain ⟨s0, s1, s2⟩ := ck_cells hS4.out
  go_wp2_with fail
  go_returns
  exact ⟨rfl, hW.out.eq (by simp), hK.out⟩
theorem tg_cells {w : World} {b : Nat} {x y : Int} {u : ByteArray} {t : TypeId} (h : Pk.Blk w b [.int .i64 x, .int .i64 y, .string u] t) : w.cell? ⟨b, 0, none⟩ = some (.int .i64 x) ∧ w.cell? ⟨b, 1, none⟩ = some (.int .i64 y) ∧ w.cell? ⟨b, 2, none⟩ = some (.string u) := ⟨h.cell 0, h.cell 1, h.cell 2⟩
theorem tgI_take (ts : List TgM) (i : Nat) (h : i < ts.length) : (ts.take (i + 1)).flatMap tgI = (ts.take i).flatMap tgI ++ tgI (ts.getD i default) := by
  rw [List.take_succ_eq_append_getElem h, List.flatMap_append, List.flatMap_singleton]
  simp [List.getD, h]
theorem tgI_len : ∀ ts : List TgM, (ts.flatMap tgI).length = 3 * ts.length
  | [] => rfl
  | t :: ts => by rw [List.flatMap_cons, List.length_append, tgI_len ts, List.length_cons]; show 3 + _ = _; omega
set_option maxHeartbeats 3200000 in
set_option maxRecDepth 100000 in
theorem laylist_any {W0 w : World} {b : Nat} {its : List (Bool × List UInt8)} (h : Wr W0 w b 84 its) (hn : its.length ≤ 9000) (ts : List TgM) (a : Option Addr) (c : Nat) (hp : TgsAt W0 (.slice a ts.length c) ts) (hm : ts.length ≤ 64) :
    Calls Tryz.prog 78 #[.pointer (some ⟨b, 0, none⟩), .slice a ts.length c] w (WPost W0 w b 84 (its ++ (nuI ts.length 1 :: ts.flatMap tgI))) := by
  obtain ⟨L, hL⟩ : ∃ L, ts.length = L := ⟨_, rfl⟩
  rw [hL] at hp hm ⊢
  have hW := Box.mk h
  have hK : Box (Kp b w w) := ⟨Kp.refl _ _⟩
  have hpB := Box.mk hp
  have hLB := Box.mk hL
  clear h hp hL
  go_enter Tryz.func78, Tryz.ntmps78
  have hq := Box.mk (w_byte hW.out (by first | omega | (simp only [List.length_append, List.length_cons, List.length_nil]; omega)) (L : Int))
  go_wp2_with fail
  refine hq.out.mono ?_
  clear hq
  rintro e v1 ⟨rfl, hw, hk⟩
  replace hW := Box.mk hw
  replace hK := Box.mk (hK.out.trans hk)
  clear hw hk
  have hA0 : Box (Wr W0 v1 b 84 (its ++ (nuI L 1 :: (ts.take 0).flatMap tgI))) := ⟨hW.out⟩
  clear hW
  go_wp2_with fail
  go_loopw [12] (fun q wr => ∃ i : Nat, i ≤ L ∧ q = .int .i64 (i : Int) ∧ Box (Wr W0 wr b 84 (its ++ (nuI L 1 :: (ts.take i).flatMap tgI))) ∧ Box (Kp b w wr)) (fun q _ => L - (intOf q).toNat)
  case atStart => exact ⟨0, by omega, rfl, hA0, hK⟩
  case round =>
    clear hA0 hK
    obtain ⟨i, hi, rfl, hA, hK⟩ := hrel
    by_cases hlt : i < L
    · have hig : i < ts.length := by rw [hLB.out]; exact hlt
      obtain ⟨a', c', e1, e2⟩ := (hpB.out.here hA.out.bel).ex
      obtain ⟨blk, off, ha, hbl, hc⟩ := e2 (by omega)
      have haa : a = some ⟨blk, off, none⟩ := by rw [← ha]; exact (Value.slice.inj e1).1
      subst haa
      obtain ⟨k1, k2, k3⟩ := hc i hig
      have htk := tgI_take ts i hig
      obtain ⟨x, hx⟩ : ∃ x, ts.getD i default = x := ⟨_, rfl⟩
      rw [hx] at k1 k2 k3 htk
      obtain ⟨x, y, u⟩ := x
      dsimp only at k1 k2 k3 htk
      obtain ⟨W1, hW1⟩ : ∃ W, wr.alloc (.cells #[.int .i64 x, .int .i64 y, .string u] 134) = W := ⟨_, rfl⟩
      have hB1 : Below wr.heap.size wr W1 := by rw [← hW1]; exact bel_alloc _ _
      have hS1 : Box (Pk.Blk W1 wr.heap.size [.int .i64 x, .int .i64 y, .string u] 134) := ⟨by rw [← hW1]; exact Pk.Blk.new wr _ _⟩
      have hne : Box (wr.heap.size ≠ b) := ⟨by have := hA.out.lt; omega⟩
      have hW := Box.mk (hA.out.below hB1)
      replace hK := Box.mk (hK.out.trans (Kp.below hB1))
      obtain ⟨s0, s1, s2⟩ := tg_cells hS1.out
      have hii : (i : Int) < (L : Int) := by omega
      obtain ⟨pre, hpre⟩ : ∃ s, its ++ (nuI (L : Int) 1 :: (ts.take i).flatMap tgI) = s := ⟨_, rfl⟩
      have hpl : pre.length ≤ 9300 := by
        rw [← hpre, List.length_append, List.length_cons, tgI_len, List.length_take]; omega
      have hnx : Box (its ++ (nuI (L : Int) 1 :: (ts.take (i + 1)).flatMap tgI) = ((pre ++ [nuI x 1]) ++ [nuI y 2]) ++ [idI u]) := ⟨by rw [htk, ← hpre]; simp [tgI]⟩
      rw [hpre] at hW
      clear hpre hA htk hx e2 e1 ha hc hig hB1
      have hq := Box.mk (w_byte hW.out (by first | omega | (simp only [List.length_append, List.length_cons, List.length_nil]; omega)) x)
      go_wp2_with fail
      refine hq.out.mono ?_
      clear hq
      rintro e v2 ⟨rfl, hw, hk⟩
      replace hW := Box.mk hw
      replace hK := Box.mk (hK.out.trans hk)
      have hS2 := Box.mk (hk _ _ _ (by decide) hne.out hS1.out)
      clear k1 k2 k3 hw hk hS1 s0 s1 s2
      obtain ⟨s0, s1, s2⟩ := tg_cells hS2.out
      have hq := Box.mk (w_two hW.out (by first | omega | (simp only [List.length_append, List.length_cons, List.length_nil]; omega)) y)
      go_wp2_with fail
      refine hq.out.mono ?_
      clear hq
      rintro e v3 ⟨rfl, hw, hk⟩
      replace hW := Box.mk hw
      replace hK := Box.mk (hK.out.trans hk)
      have hS3 := Box.mk (hk _ _ _ (by decide) hne.out hS2.out)
      clear hw hk hS2 s0 s1 s2
      obtain ⟨s0, s1, s2⟩ := tg_cells hS3.out
      have hq := Box.mk (w_hash hW.out (by first | omega | (simp only [List.length_append, List.length_cons, List.length_nil]; omega)) u)
      go_wp2_with fail
      refine hq.out.mono ?_
      clear hq
      rintro e v4 ⟨rfl, hw, hk⟩
      replace hW := Box.mk hw
      replace hK := Box.mk (hK.out.trans hk)
      have hS4 := Box.mk (hk _ _ _ (by decide) hne.out hS3.out)
      clear hw hk hS3 s0 s1 s2
      obtain ⟨s0, s1, s2⟩ := tg_cells hS4.out
      rw [← hnx.out] at hW
      go_wp2_with fail
      exact ⟨⟨i + 1, by omega, by go_num, hW, hK⟩, by simp [intOf]; omega⟩
    · obtain rfl : i = L := by omega
      have hall : ts.take i = ts := by rw [← hLB.out, List.take_length]
      rw [hall] at hA
      go_wp2_with fail
      go_returns
      exact ⟨rfl, hA.out, hK.out⟩
end Go.Proofs.YthkfefkcjcgfkaaGreatDoor.Me
