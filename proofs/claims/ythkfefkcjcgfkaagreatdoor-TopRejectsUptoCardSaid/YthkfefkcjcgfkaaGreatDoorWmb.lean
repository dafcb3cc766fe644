/- A row stays where it is when only new things come. | The example signatures of law 7: a []By that came in, the ring, what is signed (any signatures, spoilt ones too). | Sets and signatures laid by the program's writer: what is laid (items: fits, bytes), Lay, LaySigs. | quorum.Lay, quorum.LaySigs. | quorum.LaySigs. | The document's Lay. | What the readers take: signatures (models on lists), the document's TakeSigs. | quorum.TakeSigs. | What the readers take: a set (models on lists), the document's Take. | quorum.Take. | The document's SameSigs, of two rows that hold the same. | A drawn region in which an operation that only reads races with one that steps on: whichever goes first, one continuation. No program is named. | A []api.Sig that came in. | A set that came in (an api.Set: texts, a number). -/
import Derived.Lib.ConvBytes
import Derived.OwnWalk
import Derived.Laws.StructEq
import Derived.Test.YthkfefkcjcgfkaaGreatDoorWmq
import Derived.Test.YthkfefkcjcgfkaaGreatDoorWpk
import Derived.Test.YthkfefkcjcgfkaaGreatDoorWtr
set_option linter.all false
namespace Go.Proofs.YthkfefkcjcgfkaaGreatDoor
open Go Go.RowKit

theorem row_here {w w' : World} {e : TypeId} {size n : Nat} {v : Value} {xs : List Value} (h : Pk.Row w e size v n xs) (hb : Below w.heap.size w w') : Pk.Row w' e size v n xs := h.chg (chg0 (S := fun _ => False) hb) fun _ _ h => h
end Go.Proofs.YthkfefkcjcgfkaaGreatDoor

namespace Go.Proofs.YthkfefkcjcgfkaaGreatDoor
open Go Go.RowKit

def sgC (sg : List (ByteArray × ByteArray)) : List Value := sg.flatMap sigC
/-- A region told from a class that need not be its base. -/
theorem region_steadyC {P : Program} (B C : World → Prop) (R : World → World → Prop) {id : Nat} {Q : Exit → Act → World → Prop} {a : Act} {w : World} {l : List Oper} (hm : P.follows .mixedOrders = true) (hC : C w.drew)
    (h : anyS P .any l.toArray B R (Q .normal) l.length (Array.replicate l.length false) a C) : (Code.region id l.toArray true).wp P Q a w := by
  refine wp_region_any hm ?_
  have h2 := any_of_S (fun _ _ h => h) _ _ _ _ _ hC h
  simpa using h2
end Go.Proofs.YthkfefkcjcgfkaaGreatDoor

namespace Go.Proofs.YthkfefkcjcgfkaaGreatDoor
open Go Go.RowKit

/-- What a run of items leaves: spoilt where one doesn't fit; else all is there. -/
structure Laid (its : List (Bool × List UInt8)) (l : List UInt8) (bad : Bool) (l' : List UInt8) (bad' : Bool) : Prop where
  bad_eq : bad' = (bad || its.any fun x => !x.1)
  all : bad' = false → l' = l ++ its.flatMap fun x => x.2
  len : l'.length ≤ l.length + 70000 * its.length
theorem Laid.nil (l : List UInt8) (bad : Bool) : Laid [] l bad l bad := ⟨by simp, fun _ => by simp, by simp⟩
theorem Laid.lays {its : List (Bool × List UInt8)} {l l' : List UInt8} {bad bad' : Bool} (h : Laid its l bad l' bad') (ok : Bool) (s : List UInt8) (hs : ok = true → s.length ≤ 70000) : Laid (its ++ [(ok, s)]) l bad (Pk.lays ok s l' bad') (bad' || !ok) := by
  refine ⟨by rw [List.any_append, h.bad_eq]; simp [Bool.or_assoc], fun hf => ?_, ?_⟩
  · simp only [Bool.or_eq_false_iff, Bool.not_eq_false'] at hf
    rw [Pk.lays, hf.1, hf.2, h.all hf.1]
    simp
  · have := h.len
    rw [Pk.lays, List.length_append]
    cases ok with
    | false => simp; omega
    | true =>
      have h2 := hs rfl
      cases bad' <;> simp <;> omega
theorem Laid.trans {a b : List (Bool × List UInt8)} {l l1 l2 : List UInt8} {bad bad1 bad2 : Bool} (h : Laid a l bad l1 bad1) (k : Laid b l1 bad1 l2 bad2) : Laid (a ++ b) l bad l2 bad2 := by
  refine ⟨by rw [k.bad_eq, h.bad_eq, List.any_append, Bool.or_assoc], fun hf => ?_, ?_⟩
  · have hf1 : bad1 = false := by
      have := k.bad_eq
      rw [hf] at this
      cases bad1 with
      | false => rfl
      | true => simp at this
    rw [k.all hf, h.all hf1]
    simp
  · have h1 := h.len
    have h2 := k.len
    rw [List.length_append]; omega
/-- What calls of a writer leave. -/
structure Lz (w : World) (b : Nat) (t : TypeId) (v : Value) (its : List (Bool × List UInt8)) (l : List UInt8) (bad : Bool) (w' : World) : Prop where
  out : ∃ v' l' bad', Pk.WAt w' b t v' l' bad' ∧ Pk.Chg (fun k => k = b ∨ v.ownBlock = some k) w w' ∧ (∀ k, v'.ownBlock = some k → v.ownBlock = some k ∨ w.heap.size ≤ k) ∧ Laid its l bad l' bad'
theorem Lz.nil {w w1 : World} {b : Nat} {t : TypeId} {v : Value} {l : List UInt8} {bad : Bool} (h : Pk.WAt w b t v l bad) (hb : Below w.heap.size w w1) (hlt : b < w.heap.size) (hv : ∀ k, v.ownBlock = some k → k < w.heap.size) : Lz w b t v [] l bad w1 :=
  ⟨v, l, bad, h.chg (S := fun k => w.heap.size ≤ k) (Pk.Chg.of_below hb) (by omega) (fun k hk => by have := hv k hk; omega), (Pk.Chg.of_below hb).mono fun i hi e => absurd e (by omega), fun k hk => .inl hk, Laid.nil _ _⟩
theorem Lz.step {w w1 w2 : World} {b : Nat} {t : TypeId} {v v1 : Value} {l l1 l2 : List UInt8} {bad bad1 bad2 : Bool} {its its2 : List (Bool × List UInt8)} (_hA : Pk.WAt w1 b t v1 l1 bad1) (c1 : Pk.Chg (fun k => k = b ∨ v.ownBlock = some k) w w1) (p1 : ∀ k, v1.ownBlock = some k → v.ownBlock = some k ∨ w.heap.size ≤ k)
    (hn : Pk.WNext w1 b t v1 l2 bad2 w2) (hl : Laid its2 l bad l2 bad2) (_ : its = its2) : Lz w b t v its l bad w2 := by
  subst its2
  obtain ⟨v', h1, h2, h3⟩ := (Pk.WNext.trans _hA c1 p1 hn).out
  exact ⟨v', l2, bad2, h1, h2, h3, hl⟩
/-- Nothing below B is touched. -/
theorem Lz.below {W0 w w' : World} {b : Nat} {t : TypeId} {v : Value} {its : List (Bool × List UInt8)} {l : List UInt8} {bad : Bool} (h : Lz w b t v its l bad w') (hB : Below W0.heap.size W0 w) (hb : W0.heap.size ≤ b) (hv : ∀ k, v.ownBlock = some k → W0.heap.size ≤ k) : Below W0.heap.size W0 w' := by
  obtain ⟨_, _, _, _, hc, _⟩ := h.out
  exact hB.trans (hc.below hB.size fun i hi => by
    rcases hi with rfl | hi
    · exact hb
    · exact hv i hi)
def numI (n : Int) : Bool × List UInt8 := (Pk.fits n 1, Pk.beN n.toNat 1)
def idI (s : ByteArray) : Bool × List UInt8 := (decide (s.size = 32), s.data.toList)
def txI (s : ByteArray) : Bool × List UInt8 := (decide (s.size ≤ 65535), Pk.textL s)
/-- A set's. -/
def setIs (ids : List ByteArray) (n : Int) : List (Bool × List UInt8) := if chkB ids n then numI ids.length :: (ids.map idI ++ [numI n]) else [numI (-1)]
theorem numI_le (n : Int) : (numI n).2.length ≤ 70000 := by
  show (Pk.beN n.toNat 1).length ≤ 70000
  have : (Pk.beN n.toNat 1).length = 1 := by simp [Pk.beN]
  omega
theorem idI_le (s : ByteArray) (h : (idI s).1 = true) : (idI s).2.length ≤ 70000 := by
  have h1 : s.size = 32 := by simpa [idI] using h
  show s.data.toList.length ≤ _
  rw [data_len]; omega
theorem txI_le (s : ByteArray) (h : (txI s).1 = true) : (txI s).2.length ≤ 70000 := by
  have h1 : s.size ≤ 65535 := by simpa [txI] using h
  show (Pk.beN s.size 2 ++ s.data.toList).length ≤ _
  have : (Pk.beN s.size 2).length = 2 := by simp [Pk.beN]
  rw [List.length_append, data_len]; omega
end Go.Proofs.YthkfefkcjcgfkaaGreatDoor

namespace Go.Proofs.YthkfefkcjcgfkaaGreatDoor
open Go Go.RowKit

theorem wat_apart {w : World} {b bS : Nat} {t tS : TypeId} {v : Value} {l : List UInt8} {bad : Bool} {cs : List Value} (h : Pk.WAt w b t v l bad) (hS : Blk w bS cs tS) (ht : tS ≠ 5) : v.ownBlock ≠ some bS := Pk.Row.apart h.own hS ht
theorem wnext_blk {w w' : World} {b bS : Nat} {t tS : TypeId} {v : Value} {l l2 : List UInt8} {bad bad2 : Bool} {cs : List Value} (h : Pk.WAt w b t v l bad) (hn : Pk.WNext w b t v l2 bad2 w') (hS : Blk w bS cs tS) (ht : tS ≠ 5) (hne : bS ≠ b) : Blk w' bS cs tS := by
  obtain ⟨_, _, hc, _⟩ := hn.out
  exact hc.blk hS fun e => by
    rcases e with e | e
    · exact hne e
    · exact wat_apart h hS ht e
theorem idI_take (ids : List ByteArray) (i : Nat) (h : i < ids.length) : (ids.take (i + 1)).map idI = (ids.take i).map idI ++ [idI (ids.getD i ByteArray.empty)] := by
  rw [List.take_succ_eq_append_getElem h, List.map_append]
  simp [List.getD, h]
set_option maxHeartbeats 3200000 in
set_option maxRecDepth 100000 in
theorem lay_any (b : Nat) (v : Value) (l : List UInt8) (bad : Bool) (sv : Value) (ids : List ByteArray) (n : Int) (W0 w : World) (hW : Pk.WAt w b 84 v l bad) (hp : PartsAt W0 sv ids) (hB : Below W0.heap.size W0 w) (hb : W0.heap.size ≤ b) (hv : ∀ k, v.ownBlock = some k → W0.heap.size ≤ k) (hm : ids.length ≤ maxLen) (hl : l.length ≤ 1000000000) :
    Calls Tryz.prog 114 #[.pointer (some ⟨b, 0, none⟩), .agg #[sv, .int .i64 n]] w fun e w' => e = .returned (.tuple #[]) ∧ Lz w b 84 v (setIs ids n) l bad w' := by
  obtain ⟨W1, hW1⟩ : ∃ W1, w.alloc (.cells #[sv, .int .i64 n] 42) = W1 := ⟨_, rfl⟩
  have hb1 : Below w.heap.size w W1 := by rw [← hW1]; exact bel_alloc _ _
  have hS1 : Box (Blk W1 w.heap.size [sv, .int .i64 n] 42) := ⟨by rw [← hW1]; exact Blk.new w _ _⟩
  have hlt : b < w.heap.size := Pk.Blk.lt hW.blk
  have hvl : ∀ k, v.ownBlock = some k → k < w.heap.size := fun k hk => Pk.Row.lt hW.own k hk
  have hne : Box (w.heap.size ≠ b) := ⟨by omega⟩
  have hz1 : Box (Lz w b 84 v [] l bad W1) := ⟨Lz.nil hW hb1 hlt hvl⟩
  have hbel : Box (∀ its w', Lz w b 84 v its l bad w' → Below W0.heap.size W0 w') := ⟨fun its w' h => h.below hB hb hv⟩
  have hsh : ∃ a c, sv = .slice a ids.length c := by
    obtain ⟨a, c, rfl, _⟩ := hp.ex
    exact ⟨_, _, rfl⟩
  obtain ⟨a, c, rfl⟩ := hsh
  obtain ⟨L, hL⟩ : ∃ L, ids.length = L := ⟨_, rfl⟩
  have hck := check_any _ ids n W1 (hp.here (hbel.out _ _ hz1.out)) hm
  rw [hL] at hp hS1 hck hW1 ⊢
  obtain ⟨bS, hbS⟩ : ∃ x, w.heap.size = x := ⟨_, rfl⟩
  rw [hbS] at hS1 hne
  have hlB := Box.mk hl
  have hpB := Box.mk hp
  have hLB := Box.mk hL
  have hWB := Box.mk hW
  have hvB := Box.mk hvl
  have hltB := Box.mk hlt
  have q0 := hS1.out.cell 0
  have q1 := hS1.out.cell 1
  simp only [List.getElem?_cons_zero, List.getElem?_cons_succ] at q0 q1
  clear hp hB hb hv hvl hW hL hl hlt
  go_enter Tryz.func114, Tryz.ntmps114
  go_wp2_with fail
  refine hck.mono ?_
  clear hck q0 q1
  rintro e w2 ⟨rfl, hb2⟩
  have hS2 := Box.mk (hS1.out.below hb2 hS1.out.lt)
  have hB12 : Below w.heap.size w w2 := mono_bel hb1 hb2 (Nat.le_refl _)
  have hW2 : Pk.WAt w2 b 84 v l bad := hWB.out.chg (S := fun k => w.heap.size ≤ k) (Pk.Chg.of_below hB12) (by have := hltB.out; omega) (fun k hk => by have := hvB.out k hk; omega)
  have c2 : Pk.Chg (fun k => k = b ∨ v.ownBlock = some k) w w2 := (Pk.Chg.of_below hB12).mono fun i hi e => absurd e (by omega)
  have p2 : ∀ k, v.ownBlock = some k → v.ownBlock = some k ∨ w.heap.size ≤ k := fun k hk => .inl hk
  clear hW1 hb1 hb2 hS1 hz1 hbS hB12
  cases hg : chkB ids n with
  | false =>
    have hce : chkE ids n = 1 := by rw [chkE, hg]; rfl
    have hF := Pk.byte_any b v l bad (-1) w2 hW2 (by have := hlB.out; omega)
    have hz := Box.mk fun w3 (h : Pk.WNext w2 b 84 v (Pk.lays (Pk.fits (-1) 1) (Pk.beN (-1 : Int).toNat 1) l bad) (bad || !Pk.fits (-1) 1) w3) => Lz.step hW2 c2 p2 h (Laid.lays (Laid.nil l bad) (Pk.fits (-1) 1) (Pk.beN (-1 : Int).toNat 1) fun _ => numI_le (-1)) (show [numI (-1)] = _ from rfl)
    have hits : Box (setIs ids n = [numI (-1)]) := ⟨by rw [setIs, hg]; rfl⟩
    rw [hce]
    clear hce hg hW2 c2 p2
    go_wp2_with fail
    refine hF.mono ?_
    clear hF
    rintro e w3 ⟨rfl, h3⟩
    have hz3 := Box.mk (hz.out w3 h3)
    clear h3 hz
    go_wp2_with fail
    go_returns
    exact ⟨rfl, by rw [hits.out]; exact hz3.out⟩
  | true =>
    have hce : chkE ids n = 0 := by rw [chkE, hg]; rfl
    have hF := Pk.byte_any b v l bad (L : Int) w2 hW2 (by have := hlB.out; omega)
    have hz := Box.mk fun w3 (h : Pk.WNext w2 b 84 v (Pk.lays (Pk.fits (L : Int) 1) (Pk.beN (L : Int).toNat 1) l bad) (bad || !Pk.fits (L : Int) 1) w3) => (⟨Lz.step hW2 c2 p2 h (Laid.lays (Laid.nil l bad) (Pk.fits (L : Int) 1) (Pk.beN (L : Int).toNat 1) fun _ => numI_le L) (show [numI L] = _ from rfl), wnext_blk hW2 h hS2.out (by decide) hne.out⟩ : Lz w b 84 v [numI L] l bad w3 ∧ Blk w3 bS [.slice a L c, .int .i64 n] 42)
    have hits : Box (setIs ids n = numI (L : Int) :: (ids.map idI ++ [numI n])) := ⟨by rw [setIs, hg, hLB.out]; rfl⟩
    have q0 := hS2.out.cell 0
    simp only [List.getElem?_cons_zero] at q0
    have hL16 : L ≤ 16 := by
      have := (chkB_iff ids n).1 hg
      rw [hLB.out] at this
      exact this.2.2.1
    rw [hce]
    clear hce hg hW2 c2 p2
    go_wp2_with fail
    refine hF.mono ?_
    clear hF q0
    rintro e w3 ⟨rfl, h3⟩
    have hz3 := hz.out w3 h3
    have hA0 : Box (Lz w b 84 v (numI L :: (ids.take 0).map idI) l bad w3 ∧ Blk w3 bS [.slice a L c, .int .i64 n] 42) := ⟨by simpa using hz3⟩
    have q0 := hz3.2.cell 0
    simp only [List.getElem?_cons_zero] at q0
    clear h3 hz hz3 hS2
    go_wp2_with fail
    go_loopw [5, 19] (fun _ q wr => ∃ i : Nat, i ≤ L ∧ q = .int .i64 (i : Int) ∧ Box (Lz w b 84 v (numI L :: (ids.take i).map idI) l bad wr ∧ Blk wr bS [.slice a L c, .int .i64 n] 42)) (fun _ q _ => L - (intOf q).toNat)
    case atStart => exact ⟨0, by omega, rfl, hA0⟩
    case round =>
      clear hA0 q0
      obtain ⟨i, hi, rfl, hA⟩ := hrel
      obtain ⟨v', l', bad', hW', hc', hp', hl'⟩ := hA.out.1.out
      have hlen := hl'.len
      have h17 : (numI L :: (ids.take i).map idI).length ≤ 17 := by
        simp only [List.length_cons, List.length_map, List.length_take]
        omega
      have hll : l'.length ≤ 35184372088000 := Nat.le_trans hlen (Nat.le_trans (Nat.add_le_add hlB.out (Nat.mul_le_mul_left 70000 h17)) (by decide))
      by_cases hlt : i < L
      · have hpr := hpB.out.here (hbel.out _ _ hA.out.1)
        obtain ⟨a9, c9, e9, hh9⟩ := hpr.ex
        rw [hLB.out] at e9 hh9
        cases e9
        obtain ⟨blk, off, rfl, _, hcell⟩ := hh9 (by omega)
        have hci := hcell i hlt
        obtain ⟨id, hid⟩ : ∃ x, ids.getD i ByteArray.empty = x := ⟨_, rfl⟩
        rw [hid] at hci
        have hF := Pk.hash_any b v' l' bad' id wr hW' hll
        have htk := idI_take ids i (by rw [hLB.out]; exact hlt)
        rw [hid] at htk
        have hz := Box.mk fun w3 (h : Pk.WNext wr b 84 v' (Pk.lays (decide (id.size = 32)) id.data.toList l' bad') (bad' || !decide (id.size = 32)) w3) => (⟨Lz.step hW' hc' hp' h (Laid.lays hl' (decide (id.size = 32)) id.data.toList fun h => idI_le id h) (show numI L :: (ids.take (i + 1)).map idI = _ by rw [htk]; rfl), wnext_blk hW' h hA.out.2 (by decide) hne.out⟩ : Lz w b 84 v (numI L :: (ids.take (i + 1)).map idI) l bad w3 ∧ Blk w3 bS [.slice (some ⟨blk, off, none⟩) L c, .int .i64 n] 42)
        have hii : (i : Int) < (L : Int) := by omega
        clear hh9 hcell hpr hid htk hW' hc' hp' hl' hlen h17 hll hA
        go_wp2_with fail
        refine hF.mono ?_
        clear hF hci
        rintro e w4 ⟨rfl, h4⟩
        have hz4 := Box.mk (hz.out w4 h4)
        clear h4 hz
        go_wp2_with fail
        exact ⟨⟨i + 1, by omega, by go_num, hz4⟩, by simp [intOf]; omega⟩
      · obtain rfl : i = L := by omega
        have hF := Pk.byte_any b v' l' bad' n wr hW' (Nat.le_trans hll (by decide))
        have hall : ids.take i = ids := by rw [← hLB.out, List.take_length]
        have hz := Box.mk fun w3 (h : Pk.WNext wr b 84 v' (Pk.lays (Pk.fits n 1) (Pk.beN n.toNat 1) l' bad') (bad' || !Pk.fits n 1) w3) => Lz.step hW' hc' hp' h (Laid.lays hl' (Pk.fits n 1) (Pk.beN n.toNat 1) fun _ => numI_le n) (show setIs ids n = _ by rw [hits.out, hall]; rfl)
        have q1 := hA.out.2.cell 1
        simp only [List.getElem?_cons_succ, List.getElem?_cons_zero] at q1
        clear hall hW' hc' hp' hl' hlen h17 hll hA hi hlt
        go_wp2_with fail
        refine hF.mono ?_
        clear hF q1
        rintro e w4 ⟨rfl, h4⟩
        have hz4 := Box.mk (hz.out w4 h4)
        clear h4 hz
        go_wp2_with fail
        go_returns
        exact ⟨rfl, hz4.out⟩
end Go.Proofs.YthkfefkcjcgfkaaGreatDoor

namespace Go.Proofs.YthkfefkcjcgfkaaGreatDoor
open Go Go.RowKit

end Go.Proofs.YthkfefkcjcgfkaaGreatDoor

namespace Go.Proofs.YthkfefkcjcgfkaaGreatDoor
open Go Go.RowKit

end Go.Proofs.YthkfefkcjcgfkaaGreatDoor

namespace Go.Proofs.YthkfefkcjcgfkaaGreatDoor
open Go Go.RowKit

def sigsR : Nat → List UInt8 → Int → List (ByteArray × ByteArray) × List UInt8 × Int
  | 0, l, e => ([], l, e)
  | k + 1, l, e => ((sigsR k l e).1 ++ [(Pk.btx (Pk.rawR 32 (sigsR k l e).2.1 (sigsR k l e).2.2).1, Pk.btx (Pk.textR 1024 (Pk.rawR 32 (sigsR k l e).2.1 (sigsR k l e).2.2).2.1 (Pk.rawR 32 (sigsR k l e).2.1 (sigsR k l e).2.2).2.2).1)],
      (Pk.textR 1024 (Pk.rawR 32 (sigsR k l e).2.1 (sigsR k l e).2.2).2.1 (Pk.rawR 32 (sigsR k l e).2.1 (sigsR k l e).2.2).2.2).2.1, (Pk.textR 1024 (Pk.rawR 32 (sigsR k l e).2.1 (sigsR k l e).2.2).2.1 (Pk.rawR 32 (sigsR k l e).2.1 (sigsR k l e).2.2).2.2).2.2)
theorem sigsR_len : ∀ (k : Nat) (l : List UInt8) (e : Int), (sigsR k l e).1.length = k
  | 0, _, _ => rfl
  | k + 1, l, e => by
    show ((sigsR k l e).1 ++ [_]).length = k + 1
    rw [List.length_append, sigsR_len k l e]; rfl
/-- A count of one byte. -/
theorem num1 (l : List UInt8) (e : Int) : ∃ n : Nat, (Pk.numR 1 l e).1 = (n : Int) ∧ n < 256 := by
  unfold Pk.numR
  split
  · exact ⟨0, rfl, by decide⟩
  · split
    · exact ⟨0, rfl, by decide⟩
    · next h =>
      split
      · exact ⟨0, rfl, by decide⟩
      · exact ⟨_, rfl, Pk.numL_lt 1 (l.take 1) (by rw [List.length_take]; omega)⟩
/-- Signatures taken, in a row of their own; the reader behind it. -/
structure TkS (w : World) (b : Nat) (t : TypeId) (v : Value) (sg : List (ByteArray × ByteArray)) (l : List UInt8) (e : Int) (w' : World) : Prop where
  row : Pk.Row w' 71 2 v sg.length (sgC sg)
  own : ∀ k, v.ownBlock = some k → w.heap.size ≤ k
  at_ : Pk.RAt w' b t l e
  chg : Pk.Chg (fun k => k = b) w w'
theorem TkS.here {w w1 w2 : World} {b : Nat} {t : TypeId} {v : Value} {sg : List (ByteArray × ByteArray)} {l : List UInt8} {e : Int} (h : TkS w b t v sg l e w1) (hb : Below w1.heap.size w1 w2) : TkS w b t v sg l e w2 :=
  ⟨row_here h.row hb, h.own, (chg0 (S := fun _ => False) hb).blk h.at_ fun h => h, h.chg.trans (Pk.Chg.of_below hb) fun i hi e => (by have := h.chg.size; omega)⟩
end Go.Proofs.YthkfefkcjcgfkaaGreatDoor

namespace Go.Proofs.YthkfefkcjcgfkaaGreatDoor
open Go Go.RowKit

theorem Row_put {w : World} {e : TypeId} {size g n c : Nat} {xs : List Value} (h : Pk.Row w e size (.slice (some ⟨g, 0, none⟩) n c) n xs) (j : Nat) (u : Value) : Pk.Row (w.setCell ⟨g, j, none⟩ u) e size (.slice (some ⟨g, 0, none⟩) n c) n (xs.set j u) := by
  obtain ⟨hx, ⟨h0, _⟩ | ⟨g2, cap, cur, e1, b1, hg, k1, k2, k3, k4⟩⟩ := h
  · cases h0
  · cases e1
    refine ⟨by rw [List.length_set]; exact hx, .inr ⟨g, c, cur.setIfInBounds j u, rfl, b1, heap_setCell_same w g j cur e u hg, k1, k2, by simpa using k3, ?_⟩⟩
    rw [Array.toList_setIfInBounds, List.take_set, k4]
theorem Row_free {w : World} {e : TypeId} {size g n c : Nat} {xs : List Value} (h : Pk.Row w e size (.slice (some ⟨g, 0, none⟩) n c) n xs) (j : Nat) : w.frozen? ⟨g, j, none⟩ = false := by
  obtain ⟨_, ⟨h0, _⟩ | ⟨g2, cap, cur, e1, b1, hg, _⟩⟩ := h
  · cases h0
  · cases e1
    exact frozen_of_row w g j cur _ hg
/-- A row that was made, whatever stands in it; the reader beside. -/
structure TkR (w : World) (b : Nat) (t e : TypeId) (size g n : Nat) (xs : List Value) (l : List UInt8) (er : Int) (w' : World) : Prop where
  row : Pk.Row w' e size (.slice (some ⟨g, 0, none⟩) n n) n xs
  own : w.heap.size ≤ g
  at_ : Pk.RAt w' b t l er
  chg : Pk.Chg (fun k => k = b) w w'
theorem TkR.next {w w1 w2 : World} {b : Nat} {t e : TypeId} {size g n : Nat} {xs : List Value} {l l2 : List UInt8} {er er2 : Int} (h : TkR w b t e size g n xs l er w1) (hb : b < w.heap.size) (hn : Pk.RNext w1 b t l2 er2 w2) : TkR w b t e size g n xs l2 er2 w2 :=
  ⟨h.row.chg hn.chg fun k hk ee => (by have hk2 : g = k := (by simpa [Value.ownBlock] using hk); have := h.own; omega), h.own, hn.at_, h.chg.trans hn.chg fun _ _ h => h⟩
theorem TkR.put {w w1 : World} {b : Nat} {t e : TypeId} {size g n : Nat} {xs : List Value} {l : List UInt8} {er : Int} (h : TkR w b t e size g n xs l er w1) (hb : b < w.heap.size) (j : Nat) (u : Value) : TkR w b t e size g n (xs.set j u) l er (w1.setCell ⟨g, j, none⟩ u) :=
  ⟨Row_put h.row j u, h.own, Blk.setCell_other (show Blk w1 _ _ _ from h.at_) _ _ (by have := h.own; simp; omega), h.chg.trans ((Pk.Chg.refl (fun k => k = g) w1).setCell rfl u) fun i hi ee => (by have := h.own; have ee : i = g := ee; omega)⟩
end Go.Proofs.YthkfefkcjcgfkaaGreatDoor

namespace Go.Proofs.YthkfefkcjcgfkaaGreatDoor
open Go Go.RowKit

def rawsR : Nat → List UInt8 → Int → List ByteArray × List UInt8 × Int
  | 0, l, e => ([], l, e)
  | k + 1, l, e => ((rawsR k l e).1 ++ [Pk.btx (Pk.rawR 32 (rawsR k l e).2.1 (rawsR k l e).2.2).1], (Pk.rawR 32 (rawsR k l e).2.1 (rawsR k l e).2.2).2.1, (Pk.rawR 32 (rawsR k l e).2.1 (rawsR k l e).2.2).2.2)
theorem rawsR_len : ∀ (k : Nat) (l : List UInt8) (e : Int), (rawsR k l e).1.length = k
  | 0, _, _ => rfl
  | k + 1, l, e => by
    show ((rawsR k l e).1 ++ [_]).length = k + 1
    rw [List.length_append, rawsR_len k l e]; rfl
/-- All that is read of a set, ahead of the check: texts, number, what is left, the error. -/
def takeA (l : List UInt8) (e : Int) : List ByteArray × Int × List UInt8 × Int :=
  ((rawsR (Pk.numR 1 l e).1.toNat (Pk.numR 1 l e).2.1 (Pk.numR 1 l e).2.2).1,
   (Pk.numR 1 (rawsR (Pk.numR 1 l e).1.toNat (Pk.numR 1 l e).2.1 (Pk.numR 1 l e).2.2).2.1 (rawsR (Pk.numR 1 l e).1.toNat (Pk.numR 1 l e).2.1 (Pk.numR 1 l e).2.2).2.2).1,
   (Pk.numR 1 (rawsR (Pk.numR 1 l e).1.toNat (Pk.numR 1 l e).2.1 (Pk.numR 1 l e).2.2).2.1 (rawsR (Pk.numR 1 l e).1.toNat (Pk.numR 1 l e).2.1 (Pk.numR 1 l e).2.2).2.2).2.1,
   (Pk.numR 1 (rawsR (Pk.numR 1 l e).1.toNat (Pk.numR 1 l e).2.1 (Pk.numR 1 l e).2.2).2.1 (rawsR (Pk.numR 1 l e).1.toNat (Pk.numR 1 l e).2.1 (Pk.numR 1 l e).2.2).2.2).2.2)
def errT (T : List ByteArray × Int × List UInt8 × Int) : Int := if chkB T.1 T.2.1 then T.2.2.2 else Pk.failE T.2.2.2 3
def idsT (T : List ByteArray × Int × List UInt8 × Int) : List ByteArray := if errT T = 0 then T.1 else []
def needT (T : List ByteArray × Int × List UInt8 × Int) : Int := if errT T = 0 then T.2.1 else 0
/-- In the loop: the set's box (it holds vb), the answer's box, the row v, the reader. -/
structure XTk (w : World) (b bR bS : Nat) (t : TypeId) (vb v : Value) (need : Int) (ids : List ByteArray) (l : List UInt8) (e : Int) (w' : World) : Prop where
  res : Blk w' bR [.slice none 0 0, .int .i64 0] 42
  box : Blk w' bS [vb, .int .i64 need] 42
  row : TxR w.heap.size w' v ids
  at_ : Pk.RAt w' b t l e
  chg : Pk.Chg (fun k => k = b) w w'
theorem XTk.next {w w1 w2 : World} {b bR bS : Nat} {t : TypeId} {vb v : Value} {need : Int} {ids : List ByteArray} {l l2 : List UInt8} {e e2 : Int} (h : XTk w b bR bS t vb v need ids l e w1) (hb : b < w.heap.size) (h1 : w.heap.size ≤ bR) (h2 : w.heap.size ≤ bS) (hn : Pk.RNext w1 b t l2 e2 w2) : XTk w b bR bS t vb v need ids l2 e2 w2 :=
  ⟨hn.chg.blk h.res (by omega), hn.chg.blk h.box (by omega), h.row.chg hn.chg fun k hk ee => (by have := h.row.own k hk; have ee : k = b := ee; omega), hn.at_, h.chg.trans hn.chg fun _ _ h => h⟩
theorem XTk.here {w w1 w2 : World} {b bR bS : Nat} {t : TypeId} {vb v : Value} {need : Int} {ids : List ByteArray} {l : List UInt8} {e : Int} (h : XTk w b bR bS t vb v need ids l e w1) (hb : Below w1.heap.size w1 w2) : XTk w b bR bS t vb v need ids l e w2 :=
  ⟨h.res.below hb h.res.lt, h.box.below hb h.box.lt, h.row.here hb, (chg0 (S := fun _ => False) hb).blk h.at_ fun h => h, h.chg.trans (Pk.Chg.of_below hb) fun i hi e => (by have := h.chg.size; omega)⟩
theorem XTk.store {w w1 : World} {b bR bS : Nat} {t : TypeId} {vb v : Value} {need : Int} {ids : List ByteArray} {l : List UInt8} {e : Int} (h : XTk w b bR bS t vb v need ids l e w1) (hb : b < w.heap.size) (_ : w.heap.size ≤ bR) (h2 : w.heap.size ≤ bS) (h3 : bR ≠ bS) (u : Value) : XTk w b bR bS t u v need ids l e (w1.setCell ⟨bS, 0, none⟩ u) :=
  ⟨h.res.setCell_other _ _ h3, h.box.setCell 0 u, h.row.set h.box (by decide) u, Blk.setCell_other (show Blk w1 _ _ _ from h.at_) _ _ (by simp; omega), h.chg.trans ((Pk.Chg.refl (fun k => k = bS) w1).setCell rfl u) fun i hi ee => (by have ee : i = bS := ee; omega)⟩
theorem XTk.number {w w1 : World} {b bR bS : Nat} {t : TypeId} {vb v : Value} {need : Int} {ids : List ByteArray} {l : List UInt8} {e : Int} (h : XTk w b bR bS t vb v need ids l e w1) (hb : b < w.heap.size) (_ : w.heap.size ≤ bR) (h2 : w.heap.size ≤ bS) (h3 : bR ≠ bS) (n : Int) : XTk w b bR bS t vb v n ids l e (w1.setCell ⟨bS, 1, none⟩ (.int .i64 n)) :=
  ⟨h.res.setCell_other _ _ h3, h.box.setCell 1 _, h.row.set h.box (by decide) _, Blk.setCell_other (show Blk w1 _ _ _ from h.at_) _ _ (by simp; omega), h.chg.trans ((Pk.Chg.refl (fun k => k = bS) w1).setCell rfl _) fun i hi ee => (by have ee : i = bS := ee; omega)⟩
/-- What a Take leaves. -/
structure TkT (w : World) (b : Nat) (t : TypeId) (T : List ByteArray × Int × List UInt8 × Int) (r : Ending) (w' : World) : Prop where
  out : ∃ v, r = .returned (.agg #[v, .int .i64 (needT T)]) ∧ TxR w.heap.size w' v (idsT T)
  at_ : Pk.RAt w' b t T.2.2.1 (errT T)
  chg : Pk.Chg (fun k => k = b) w w'
theorem XTk.fin {w w1 : World} {b bR bS : Nat} {t : TypeId} {vb v : Value} {need : Int} {ids : List ByteArray} {l : List UInt8} {e : Int} (h : XTk w b bR bS t vb v need ids l e w1) (hb : b < w.heap.size) (h1 : w.heap.size ≤ bR) (u0 u1 : Value) :
    Blk ((w1.setCell ⟨bR, 0, none⟩ u0).setCell ⟨bR, 1, none⟩ u1) bR [u0, u1] 42 ∧ TxR w.heap.size ((w1.setCell ⟨bR, 0, none⟩ u0).setCell ⟨bR, 1, none⟩ u1) v ids ∧ Pk.RAt ((w1.setCell ⟨bR, 0, none⟩ u0).setCell ⟨bR, 1, none⟩ u1) b t l e ∧ Pk.Chg (fun k => k = b) w ((w1.setCell ⟨bR, 0, none⟩ u0).setCell ⟨bR, 1, none⟩ u1) := by
  have hne : b ≠ bR := by omega
  have ha : Blk w1 b [.string (Pk.btx l), .int .i64 e] t := h.at_
  exact ⟨(h.res.setCell 0 u0).setCell 1 u1, (h.row.set h.res (by decide) u0).set (h.res.setCell 0 u0) (by decide) u1, (ha.setCell_other _ _ hne).setCell_other _ _ hne,
    h.chg.trans (((Pk.Chg.refl (fun k => k = bR) w1).setCell rfl u0).setCell rfl u1) fun i hi ee => (by have ee : i = bR := ee; omega)⟩
theorem errT_yes {R : List ByteArray} {n : Int} {l : List UInt8} {e : Int} (h : chkB R n = true) : errT (R, n, l, e) = e := by simp [errT, h]
theorem errT_no {R : List ByteArray} {n : Int} {l : List UInt8} {e : Int} (h : chkB R n = false) : errT (R, n, l, e) = Pk.failE e 3 := by simp [errT, h]
theorem failE_ne (e : Int) : Pk.failE e 3 ≠ 0 := by
  unfold Pk.failE
  split
  · decide
  · assumption
theorem st_eq {B C : World → Prop} (h : ∀ w, C w → B w) : St B (fun w w' => w = w') C := ⟨h, fun _ _ hC e => e ▸ hC⟩
end Go.Proofs.YthkfefkcjcgfkaaGreatDoor

namespace Go.Proofs.YthkfefkcjcgfkaaGreatDoor
open Go Go.RowKit

/-- In the loop: boxes, the row that was made, whatever stands in it, the reader. -/
structure YTk (w : World) (b bR bS g n : Nat) (t : TypeId) (xs : List Value) (l : List UInt8) (e : Int) (w' : World) : Prop where
  res : Blk w' bR [.slice none 0 0, .int .i64 0] 42
  box : Blk w' bS [.slice (some ⟨g, 0, none⟩) n n, .int .i64 0] 42
  tk : TkR w b t 9 1 g n xs l e w'
theorem YTk.next {w w1 w2 : World} {b bR bS g n : Nat} {t : TypeId} {xs : List Value} {l l2 : List UInt8} {e e2 : Int} (h : YTk w b bR bS g n t xs l e w1) (hb : b < w.heap.size) (h1 : w.heap.size ≤ bR) (h2 : w.heap.size ≤ bS) (hn : Pk.RNext w1 b t l2 e2 w2) : YTk w b bR bS g n t xs l2 e2 w2 :=
  ⟨hn.chg.blk h.res (by omega), hn.chg.blk h.box (by omega), h.tk.next hb hn⟩
theorem YTk.put {w w1 : World} {b bR bS g n : Nat} {t : TypeId} {xs : List Value} {l : List UInt8} {e : Int} (h : YTk w b bR bS g n t xs l e w1) (hb : b < w.heap.size) (j : Nat) (u : Value) : YTk w b bR bS g n t (xs.set j u) l e (w1.setCell ⟨g, j, none⟩ u) :=
  ⟨h.res.setCell_other _ _ (fun ee => Pk.Row.apart h.tk.row h.res (by decide) (by rw [show bR = g from ee]; rfl)), h.box.setCell_other _ _ (fun ee => Pk.Row.apart h.tk.row h.box (by decide) (by rw [show bS = g from ee]; rfl)), h.tk.put hb j u⟩
theorem YTk.drew {w w1 : World} {b bR bS g n : Nat} {t : TypeId} {xs : List Value} {l : List UInt8} {e : Int} (h : YTk w b bR bS g n t xs l e w1) : YTk w b bR bS g n t xs l e w1.drew :=
  ⟨h.res.below (dB w1) h.res.lt, h.box.below (dB w1) h.box.lt, ⟨row_here h.tk.row (dB w1), h.tk.own, (chg0 (S := fun _ => False) (dB w1)).blk h.tk.at_ fun h => h, h.tk.chg.drew⟩⟩
theorem YTk.full {w w1 : World} {b bR bS g n : Nat} {t : TypeId} {ids : List ByteArray} {l : List UInt8} {e : Int} (h : YTk w b bR bS g n t (ids.map Value.string) l e w1) (hl : ids.length = n) : XTk w b bR bS t (.slice (some ⟨g, 0, none⟩) n n) (.slice (some ⟨g, 0, none⟩) n n) 0 ids l e w1 :=
  ⟨h.res, h.box, TxR.of_row (by rw [hl]; exact h.tk.row) (fun k hk => by cases hk; exact h.tk.own), h.tk.at_, h.tk.chg⟩
theorem set_one (a r : List Value) (x u : Value) (j : Nat) (hj : a.length = j) : (a ++ (u :: r)).set j x = a ++ [x] ++ r := by
  subst hj
  simp
set_option maxHeartbeats 6400000 in
set_option maxRecDepth 100000 in
theorem take_any (b : Nat) (l : List UInt8) (e : Int) (w : World) (h : Pk.RAt w b 107 l e) :
    Calls Tryz.prog 104 #[.pointer (some ⟨b, 0, none⟩)] w fun r w' => TkT w b 107 (takeA l e) r w' := by
  have hlt : b < w.heap.size := Pk.Blk.lt h
  obtain ⟨W1, hW1⟩ : ∃ W1, w.alloc (.cells #[.slice none 0 0, .int .i64 0] 42) = W1 := ⟨_, rfl⟩
  have hb1 : Below w.heap.size w W1 := by rw [← hW1]; exact bel_alloc _ _
  have hR1 : Blk W1 w.heap.size [.slice none 0 0, .int .i64 0] 42 := by rw [← hW1]; exact Blk.new w _ _
  have hat1 : Pk.RAt W1 b 107 l e := (chg0 (S := fun _ => False) hb1).blk h fun h => h
  have hc1 : Pk.Chg (fun k => k = b) w W1 := (Pk.Chg.of_below hb1).mono fun i hi e => absurd e (by omega)
  obtain ⟨i0, hi0, hz0, hz1, hz2⟩ := info_parts info_s
  have hH := Box.mk (And.intro hi0 (And.intro hz0 (And.intro hz1 hz2)))
  have hF := Pk.rbyte_any b l e W1 hat1
  obtain ⟨n, hn, hn256⟩ := num1 l e
  have hT : takeA l e = ((rawsR n (Pk.numR 1 l e).2.1 (Pk.numR 1 l e).2.2).1,
   (Pk.numR 1 (rawsR n (Pk.numR 1 l e).2.1 (Pk.numR 1 l e).2.2).2.1 (rawsR n (Pk.numR 1 l e).2.1 (Pk.numR 1 l e).2.2).2.2).1,
   (Pk.numR 1 (rawsR n (Pk.numR 1 l e).2.1 (Pk.numR 1 l e).2.2).2.1 (rawsR n (Pk.numR 1 l e).2.1 (Pk.numR 1 l e).2.2).2.2).2.1,
   (Pk.numR 1 (rawsR n (Pk.numR 1 l e).2.1 (Pk.numR 1 l e).2.2).2.1 (rawsR n (Pk.numR 1 l e).2.1 (Pk.numR 1 l e).2.2).2.2).2.2) := by rw [takeA, hn]; rfl
  rw [hn] at hF
  obtain ⟨m, hm⟩ : ∃ m, (Pk.numR 1 l e).2.1 = m := ⟨_, rfl⟩
  obtain ⟨f, hf⟩ : ∃ f, (Pk.numR 1 l e).2.2 = f := ⟨_, rfl⟩
  rw [hm, hf] at hF hT
  obtain ⟨T, hTe⟩ : ∃ T, takeA l e = T := ⟨_, rfl⟩
  rw [hTe] at hT ⊢
  have hlB := Box.mk hlt
  have hTB := Box.mk hT
  obtain ⟨bR, hbR⟩ : ∃ x, w.heap.size = x := ⟨_, rfl⟩
  have hbR1 : Box (w.heap.size ≤ bR) := ⟨by omega⟩
  rw [hbR] at hR1
  have hR1B := Box.mk hR1
  have hc1B := Box.mk hc1
  clear h hlt hn hm hf hTe hT hb1 hat1 hc1 hi0 hz0 hz1 hz2 hR1
  go_enter Tryz.func104, Tryz.ntmps104
  go_wp2_with fail
  refine hF.mono ?_
  clear hF hW1 hbR
  rintro r w1 ⟨rfl, h1⟩
  have hR2 := Box.mk (h1.chg.blk hR1B.out (by have := hbR1.out; have := hlB.out; omega))
  have h1c := Box.mk (hc1B.out.trans h1.chg fun _ _ h => h)
  have h1a := Box.mk h1.at_
  clear h1 hR1B hc1B
  go_wp2_with (at_make; refine wpList_make_full _ rfl (.tmp 6) (.tmp 6) 35 rfl 0 9 i0 (.string ⟨#[]⟩) 1 Tryz.underlying35 hH.out.1 hH.out.2.1 hH.out.2.2.1 .i64 .i64 _ _ n rfl rfl rfl rfl (by rw [hH.out.2.2.2]; omega) (by unfold maxLen; omega) (Nat.zero_le _) ?_; intro w2 hown hg; replace hown := Box.mk hown; replace hg := Box.mk hg)
  have hb2 : Below w1.heap.size w1 w2 := ⟨hg.out.os, hg.out.tape, hg.out.output, hg.out.size, fun k hk => hg.out.block k hk (by simp)⟩
  obtain ⟨W3, hW3⟩ : ∃ W3, w2.alloc (.cells #[.slice (some ⟨w1.heap.size, 0, none⟩) n n, .int .i64 0] 42) = W3 := ⟨_, rfl⟩
  have hb3 : Below w2.heap.size w2 W3 := by rw [← hW3]; exact bel_alloc _ _
  have hS3 : Blk W3 w2.heap.size [.slice (some ⟨w1.heap.size, 0, none⟩) n n, .int .i64 0] 42 := by rw [← hW3]; exact Blk.new w2 _ _
  have hb13 : Below w1.heap.size w1 W3 := mono_bel hb2 hb3 (Nat.le_refl _)
  have hrow3 := row_here (show Pk.Row w2 9 1 (.slice (some ⟨w1.heap.size, 0, none⟩) n n) n _ from hown.out) hb3
  have hxl := hown.out.1
  obtain ⟨xs0, hxs0⟩ : ∃ l, (madeCells (Value.string ⟨#[]⟩).cells (n * 1)).toList = l := ⟨_, rfl⟩
  rw [hxs0] at hrow3 hxl
  have hsz1 := h1c.out.size
  have hRlt : bR < w1.heap.size := (show Blk w1 bR _ _ from hR2.out).lt
  have hsz2 := hb2.size
  have hc3 : Pk.Chg (fun k => k = b) w W3 := h1c.out.trans (Pk.Chg.of_below hb13) fun i hi e => (by omega)
  have hA0 : Box (∃ rest, rest.length = n - 0 ∧ YTk w b bR w2.heap.size w1.heap.size n 107 ((rawsR 0 m f).1.map Value.string ++ rest) (rawsR 0 m f).2.1 (rawsR 0 m f).2.2 W3) := ⟨xs0, by rw [hxl]; omega, ⟨(show Blk w1 bR _ _ from hR2.out).below hb13 hRlt, hS3, ⟨hrow3, hsz1, (chg0 (S := fun _ => False) hb13).blk h1a.out fun h => h, hc3⟩⟩⟩
  rw [hW3]
  have hrs : Box (w.heap.size ≤ bR ∧ w.heap.size ≤ w2.heap.size ∧ bR ≠ w2.heap.size) := ⟨hbR1.out, by omega, by omega⟩
  obtain ⟨g, hge⟩ : ∃ g, w1.heap.size = g := ⟨_, rfl⟩
  obtain ⟨bS, hbS⟩ : ∃ x, w2.heap.size = x := ⟨_, rfl⟩
  rw [hge, hbS] at hA0 ⊢
  rw [hbS] at hrs
  clear hown hg hb2 hW3 hb3 hS3 hb13 hrow3 hxl hxs0 hsz1 hsz2 hRlt hc3 hge hbS hR2 h1c h1a hH hbR1
  go_loopw [4, 12] (fun _ q wr => ∃ i : Nat, i ≤ n ∧ q = .int .i64 (i : Int) ∧ Box (∃ rest, rest.length = n - i ∧ YTk w b bR bS g n 107 ((rawsR i m f).1.map Value.string ++ rest) (rawsR i m f).2.1 (rawsR i m f).2.2 wr)) (fun _ q _ => n - (intOf q).toNat)
  case atStart => exact ⟨0, by omega, rfl, hA0⟩
  case round =>
    clear hA0
    obtain ⟨i, hi, rfl, hA⟩ := hrel
    obtain ⟨rest, hrest, hA1⟩ := hA.out
    have hrl := rawsR_len i m f
    by_cases hlt : i < n
    · obtain ⟨u, rest2, rfl⟩ : ∃ u r2, rest = u :: r2 := by
        match rest, hrest with
        | [], h => simp at h; omega
        | u :: r2, _ => exact ⟨u, r2, rfl⟩
      have hrl2 : Box (rest2.length = n - (i + 1)) := ⟨by simp at hrest; omega⟩
      obtain ⟨R, hR⟩ : ∃ R, rawsR i m f = R := ⟨_, rfl⟩
      have hnx : rawsR (i + 1) m f = (R.1 ++ [Pk.btx (Pk.rawR 32 R.2.1 R.2.2).1], (Pk.rawR 32 R.2.1 R.2.2).2.1, (Pk.rawR 32 R.2.1 R.2.2).2.2) := by rw [← hR]; rfl
      rw [hR] at hA1 hrl
      have hcl : (R.1.map Value.string).length = i := by rw [List.length_map]; exact hrl
      have hg1 : (R.1.map Value.string ++ u :: rest2)[i]? = some u := by rw [List.getElem?_append_right (by omega), hcl]; simp
      have hF2 := Box.mk fun wz (hz : Pk.RAt wz b 107 R.2.1 R.2.2) => Pk.rhash_any b R.2.1 R.2.2 wz hz
      obtain ⟨X, hX⟩ : ∃ X, Pk.rawR 32 R.2.1 R.2.2 = X := ⟨_, rfl⟩
      rw [hX] at hF2 hnx
      obtain ⟨x1, hx1⟩ : ∃ x, Pk.btx X.1 = x := ⟨_, rfl⟩
      rw [hx1] at hF2 hnx
      have hnxB := Box.mk hnx
      have hclB := Box.mk hcl
      have hg1B := Box.mk hg1
      have hA1B := Box.mk hA1
      have hii : (i : Int) < (n : Int) := by omega
      clear hA hA1 hR hnx hX hx1 hrl hrest hcl hg1
      go_wp2_with fail
      refine region_steadyC (fun w' => Blk w' bS [.slice (some ⟨g, 0, none⟩) n n, .int .i64 0] 42) (fun w' => YTk w b bR bS g n 107 (R.1.map Value.string ++ u :: rest2) R.2.1 R.2.2 w') (fun w w' => w = w') rfl hA1B.out.drew ?_
      refine anyS_calms [0, 1, 2, 3] 3 rfl (fun _ => rfl) (st_eq fun _ h => h.box) (by kernel_rfl) (by kernel_rfl) (by kernel_rfl) ?_
      simp [nth]
      try simp only [Act.put, List.setIfInBounds_toArray, List.set_cons_succ, List.set_cons_zero]
      repeat (go_big_quiet_step (first | exact fun _ => rfl | rfl))
      refine quiet_val rfl (.slice (some ⟨g, 0, none⟩) n n) (fun w' hw' => by have h3 := hw'.cell 0; simp only [List.getElem?_cons_zero] at h3; go_simp) ?_
      simp only [Act.put, List.setIfInBounds_toArray, List.set_cons_succ, List.set_cons_zero]
      repeat (go_big_quiet_step (first | exact fun _ => rfl | rfl))
      refine wpQuiet_nil ?_
      refine anyS_forced 4 (by kernel_rfl) rfl rfl (fun wa hWa K hK => ?_)
      have hF := hF2.out wa hWa.tk.at_
      go_simp
      refine hF.mono ?_
      clear hF
      rintro r wb ⟨rfl, hb⟩
      refine hK _ _ (fun w' => YTk w b bR bS g n 107 (R.1.map Value.string ++ u :: rest2) X.2.1 X.2.2 w') (st_eq fun _ h => h.box) (hWa.next hlB.out hrs.out.1 hrs.out.2.1 hb) ?_
      clear hK K hWa hb hF2 wa wb hA1B
      refine anyS_calms [5] 1 rfl (fun _ => rfl) (st_eq fun _ h => h.box) (by kernel_rfl) (by kernel_rfl) (by kernel_rfl) ?_
      simp [nth]
      try simp only [Act.put, List.setIfInBounds_toArray, List.set_cons_succ, List.set_cons_zero]
      repeat (go_big_quiet_step (first | exact fun _ => rfl | rfl))
      refine wpQuiet_nil ?_
      refine anyS_last 6 (by kernel_rfl) rfl rfl (by kernel_rfl) (by kernel_rfl) (fun wd hWd K hK => ?_)
      have q0 := hWd.tk.row.cells _ _ hg1B.out
      have g0 := Row_free hWd.tk.row i
      have hA7 := hWd.put hlB.out i (.string x1)
      rw [set_one _ _ _ _ _ hclB.out] at hA7
      obtain ⟨w7, hw7⟩ : ∃ w7, wd.setCell ⟨g, i, none⟩ (.string x1) = w7 := ⟨_, rfl⟩
      rw [hw7] at hA7
      have hA8 : Box (∃ rest, rest.length = n - (i + 1) ∧ YTk w b bR bS g n 107 ((rawsR (i + 1) m f).1.map Value.string ++ rest) (rawsR (i + 1) m f).2.1 (rawsR (i + 1) m f).2.2 w7) := ⟨rest2, hrl2.out, by rw [hnxB.out, List.map_append]; exact hA7⟩
      clear hWd hA7
      go_simp
      refine hK _ _ ?_
      clear hK K q0 g0 hw7
      go_wp2_with fail
      exact ⟨⟨i + 1, by omega, by go_num, hA8⟩, by simp [intOf]; omega⟩
    · obtain rfl : i = n := by omega
      obtain rfl : rest = [] := List.length_eq_zero_iff.1 (by rw [hrest]; simp)
      rw [List.append_nil] at hA1
      have hA1B := Box.mk (hA1.full hrl)
      obtain ⟨R, hR⟩ : ∃ R, rawsR i m f = R := ⟨_, rfl⟩
      rw [hR] at hA1B hrl hTB
      obtain ⟨N, hN⟩ : ∃ N, Pk.numR 1 R.2.1 R.2.2 = N := ⟨_, rfl⟩
      have hF := Pk.rbyte_any b R.2.1 R.2.2 wr hA1B.out.at_
      rw [hN] at hF hTB
      have hRl : Box (R.1.length ≤ maxLen) := ⟨by unfold maxLen; omega⟩
      clear hA hA1 hN hR hrl hi hlt hrest
      go_wp2_with fail
      refine hF.mono ?_
      clear hF
      rintro r w4 ⟨rfl, h4⟩
      have hA4 := hA1B.out.next hlB.out hrs.out.1 hrs.out.2.1 h4
      have q1 := hA4.box.cell 1
      have g1 := hA4.box.free 1
      simp only [List.getElem?_cons_zero, List.getElem?_cons_succ] at q1
      have hA5 := hA4.number hlB.out hrs.out.1 hrs.out.2.1 hrs.out.2.2 N.1
      obtain ⟨w5, hw5⟩ : ∃ w5, w4.setCell ⟨bS, 1, none⟩ (.int .i64 N.1) = w5 := ⟨_, rfl⟩
      rw [hw5] at hA5
      have p0 := hA5.box.cell 0
      have p1 := hA5.box.cell 1
      simp only [List.getElem?_cons_zero, List.getElem?_cons_succ] at p0 p1
      have hF := check_any _ R.1 N.1 w5 hA5.row.parts hRl.out
      have hA5B := Box.mk hA5
      clear hA4 hA5 h4 hA1B
      go_wp2_with fail
      refine hF.mono ?_
      clear hF q1 g1 hw5 p0 p1
      rintro r w6 ⟨rfl, hb6⟩
      have hA6 := Box.mk (hA5B.out.here hb6)
      clear hb6 hA5B
      have hTl : Box (T.2.2.1 = N.2.1) := ⟨by rw [hTB.out]⟩
      cases hg : chkB R.1 N.1 with
      | true =>
        have hce : chkE R.1 N.1 = 0 := by rw [chkE, hg]; rfl
        rw [hce]
        have herr : Box (errT T = N.2.2) := ⟨by rw [hTB.out]; exact errT_yes hg⟩
        clear hce hg
        have hF := Pk.err_any b N.2.1 N.2.2 w6 hA6.out.at_
        obtain ⟨E, hE⟩ : ∃ E, N.2.2 = E := ⟨_, rfl⟩
        by_cases he : E = 0
        · rw [hE, he] at hF herr hA6
          have hnd : Box (needT T = N.1) := ⟨by rw [needT, herr.out, if_pos rfl, hTB.out]⟩
          have hids : Box (idsT T = R.1) := ⟨by rw [idsT, herr.out, if_pos rfl, hTB.out]⟩
          clear he hE
          have r0 := hA6.out.res.cell 0
          have r1 := hA6.out.res.cell 1
          have f0 := hA6.out.res.free 0
          have f1 := hA6.out.res.free 1
          have p0 := hA6.out.box.cell 0
          have p1 := hA6.out.box.cell 1
          simp only [List.getElem?_cons_zero, List.getElem?_cons_succ] at r0 r1 p0 p1
          have hfinB := Box.mk (hA6.out.fin hlB.out hrs.out.1 (.slice (some ⟨g, 0, none⟩) i i) (.int .i64 N.1))
          go_wp2_with fail
          refine hF.mono ?_
          clear hF
          rintro r w9 ⟨rfl, rfl⟩
          go_wp2_with fail
          obtain ⟨wz, hwz⟩ : ∃ wz, (w6.setCell ⟨bR, 0, none⟩ (.slice (some ⟨g, 0, none⟩) i i)).setCell ⟨bR, 1, none⟩ (.int .i64 N.1) = wz := ⟨_, rfl⟩
          rw [hwz] at hfinB ⊢
          have z0 := hfinB.out.1.cell 0
          have z1 := hfinB.out.1.cell 1
          simp only [List.getElem?_cons_zero, List.getElem?_cons_succ] at z0 z1
          exact bodyPost_ret (v := .agg #[.slice (some ⟨g, 0, none⟩) i i, .int .i64 N.1]) (by simp [results, Tryz.results104, go_sem, z0, z1]) rfl ⟨⟨.slice (some ⟨g, 0, none⟩) i i, by rw [hnd.out], by rw [hids.out]; exact hfinB.out.2.1⟩, by rw [hTl.out, herr.out]; exact hfinB.out.2.2.1, hfinB.out.2.2.2⟩
        · rw [hE] at hF herr hA6
          have hnd : Box (needT T = 0) := ⟨by rw [needT, herr.out, if_neg he]⟩
          have hids : Box (idsT T = []) := ⟨by rw [idsT, herr.out, if_neg he]⟩
          have hEn := he
          clear hE he
          have hfin := hA6.out.fin hlB.out hrs.out.1 (.slice none 0 0) (.int .i64 0)
          have r0 := hA6.out.res.cell 0
          have r1 := hA6.out.res.cell 1
          have f0 := hA6.out.res.free 0
          have f1 := hA6.out.res.free 1
          simp only [List.getElem?_cons_zero, List.getElem?_cons_succ] at r0 r1
          have hneE : (E == 0) = false := by simpa using hEn
          have hfinB := Box.mk hfin
          clear hfin hEn
          go_wp2_with fail
          refine hF.mono ?_
          clear hF
          rintro r w9 ⟨rfl, rfl⟩
          go_wp2_with fail
          obtain ⟨wz, hwz⟩ : ∃ wz, (w6.setCell ⟨bR, 0, none⟩ (.slice none 0 0)).setCell ⟨bR, 1, none⟩ (.int .i64 0) = wz := ⟨_, rfl⟩
          rw [hwz] at hfinB ⊢
          have z0 := hfinB.out.1.cell 0
          have z1 := hfinB.out.1.cell 1
          simp only [List.getElem?_cons_zero, List.getElem?_cons_succ] at z0 z1
          exact bodyPost_ret (v := .agg #[.slice none 0 0, .int .i64 0]) (by simp [results, Tryz.results104, go_sem, z0, z1]) rfl ⟨⟨.slice none 0 0, by rw [hnd.out], by rw [hids.out]; exact TxR.nil _ _⟩, by rw [hTl.out, herr.out]; exact hfinB.out.2.2.1, hfinB.out.2.2.2⟩
      | false =>
        have hce : chkE R.1 N.1 = 1 := by rw [chkE, hg]; rfl
        rw [hce]
        have herr0 : errT T = Pk.failE N.2.2 3 := by rw [hTB.out]; exact errT_no hg
        have hF := Pk.fail_any b N.2.1 N.2.2 3 w6 hA6.out.at_
        have hEn := failE_ne N.2.2
        obtain ⟨E, hE⟩ : ∃ E, Pk.failE N.2.2 3 = E := ⟨_, rfl⟩
        rw [hE] at hEn hF herr0
        have herr := Box.mk herr0
        have hnd : Box (needT T = 0) := ⟨by rw [needT, herr.out, if_neg hEn]⟩
        have hids : Box (idsT T = []) := ⟨by rw [idsT, herr.out, if_neg hEn]⟩
        have hEnB := Box.mk hEn
        clear hce hg herr0 hE hEn
        go_wp2_with fail
        refine hF.mono ?_
        clear hF
        rintro r w7 ⟨rfl, h7⟩
        have hA7 := Box.mk (hA6.out.next hlB.out hrs.out.1 hrs.out.2.1 h7)
        have hF := Pk.err_any b N.2.1 E w7 hA7.out.at_
        have hEn := hEnB.out
        clear h7 hA6
        have hfin := hA7.out.fin hlB.out hrs.out.1 (.slice none 0 0) (.int .i64 0)
        have r0 := hA7.out.res.cell 0
        have r1 := hA7.out.res.cell 1
        have f0 := hA7.out.res.free 0
        have f1 := hA7.out.res.free 1
        simp only [List.getElem?_cons_zero, List.getElem?_cons_succ] at r0 r1
        have hneE : (E == 0) = false := by simpa using hEn
        have hfinB := Box.mk hfin
        clear hfin hEn
        go_wp2_with fail
        refine hF.mono ?_
        clear hF
        rintro r w9 ⟨rfl, rfl⟩
        go_wp2_with fail
        obtain ⟨wz, hwz⟩ : ∃ wz, (w7.setCell ⟨bR, 0, none⟩ (.slice none 0 0)).setCell ⟨bR, 1, none⟩ (.int .i64 0) = wz := ⟨_, rfl⟩
        rw [hwz] at hfinB ⊢
        have z0 := hfinB.out.1.cell 0
        have z1 := hfinB.out.1.cell 1
        simp only [List.getElem?_cons_zero, List.getElem?_cons_succ] at z0 z1
        exact bodyPost_ret (v := .agg #[.slice none 0 0, .int .i64 0]) (by simp [results, Tryz.results104, go_sem, z0, z1]) rfl ⟨⟨.slice none 0 0, by rw [hnd.out], by rw [hids.out]; exact TxR.nil _ _⟩, by rw [hTl.out, herr.out]; exact hfinB.out.2.2.1, hfinB.out.2.2.2⟩
end Go.Proofs.YthkfefkcjcgfkaaGreatDoor

namespace Go.Proofs.YthkfefkcjcgfkaaGreatDoor
open Go Go.RowKit

end Go.Proofs.YthkfefkcjcgfkaaGreatDoor

namespace Go.Proofs.YthkfefkcjcgfkaaGreatDoor
open Go

section
variable {P : Program} {ops : Array Oper} {md : Region.Mode} {B : World → Prop} {R : World → World → Prop}
end
end Go.Proofs.YthkfefkcjcgfkaaGreatDoor

namespace Go.Proofs.YthkfefkcjcgfkaaGreatDoor
open Go Go.ChangeShapes Go.WideShapes Go.ChangeAt Go.RowKit Go.ChangeMaps

end Go.Proofs.YthkfefkcjcgfkaaGreatDoor

namespace Go.Proofs.YthkfefkcjcgfkaaGreatDoor
open Go Go.ChangeShapes Go.WideShapes Go.ChangeAt Go.RowKit Go.ChangeMaps

end Go.Proofs.YthkfefkcjcgfkaaGreatDoor
